/- A book and the Nats in it. -/
import Derived.Test.YtonhahbmdekkdaaDoorW48
namespace Go.Proofs.YtonhahbmdekkdaaDoor
open Go.RowKit
set_option linter.unusedVariables false
set_option maxRecDepth 20000

/-- A book and the Nats in it. -/
structure Held (lo : Nat) (w0 w : World) (h : Nat) (vs all : List Value) : Prop where
  below : Below lo w0 w
  book : Bk lo w h vs
  nice : Nice lo w all
  size : lo ≤ w.heap.size

theorem Held.take' {lo : Nat} {w0 w : World} {h : Nat} {vs all : List Value} (H : Held lo w0 w h vs all) (hl : vs.length ≤ 1000) (ao : Option Addr) (n cap : Nat) :
    Calls Tryd.prog 17 #[.pointer (some ⟨h, 0, none⟩), .slice ao n cap] w fun r w' => r = .returned (.tuple #[]) ∧ Held lo w0 w' h (vs ++ [.slice ao n cap]) all ∧ Keep w w' ∧ w.heap.size ≤ w'.heap.size :=
  (take_any lo h vs ao n cap w H.book hl H.size).mono fun r w' ⟨h1, h2, h3, h4, h5⟩ => ⟨h1, ⟨H.below.trans h4, h2, H.nice.keep h3, by have := H.size; omega⟩, h3, h5⟩

theorem Held.take {lo : Nat} {w0 w : World} {h : Nat} {vs all : List Value} (H : Held lo w0 w h vs all) (hl : vs.length ≤ 1000) (ao : Option Addr) (n cap : Nat) :
    Calls Tryd.prog 17 #[.pointer (some ⟨h, 0, none⟩), .slice ao n cap] w fun r w' => r = .returned (.tuple #[]) ∧ Held lo w0 w' h (vs ++ [.slice ao n cap]) all :=
  (take_any lo h vs ao n cap w H.book hl H.size).mono fun r w' ⟨h1, h2, h3, h4, h5⟩ => ⟨h1, H.below.trans h4, h2, H.nice.keep h3, by have := H.size; omega⟩

theorem Held.owned {lo : Nat} {w0 w : World} {h : Nat} {vs : List Value} (H : Held lo w0 w h vs vs) (hm : 0 < vs.length) (hm2 : vs.length ≤ 100) :
    Calls Tryd.prog 18 #[.pointer (some ⟨h, 0, none⟩)] w fun r w' => r = .returned (.bool true) ∧ Below lo w0 w' :=
  (owned_any lo h vs w H.book H.nice hm hm2 H.size).mono fun r w' ⟨h1, h2⟩ => ⟨h1, H.below.trans h2⟩

theorem Held.made {lo : Nat} {w0 w : World} {all : List Value} (hb : Below lo w0 w) (hn : Nice lo w all) (hs : lo ≤ w.heap.size) : Held lo w0 (w.alloc (.cells #[.slice none 0 0] 34)) w.heap.size [] all :=
  ⟨hb.alloc hs _, Bk.made lo w hs, hn.keep (Keep.below (below_alloc w _)), by simp; omega⟩
end Go.Proofs.YtonhahbmdekkdaaDoor
