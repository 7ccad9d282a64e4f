package wide

import "steelyard/api"

// Digits are read and told in pieces of nine, as many as a word holds whatever they are.
const (
	pieceDigits = 9
	pieceScale  = 1000000000
	wordDigits  = 10 // of the greatest word
)

// Text is n in decimal digits.
func Text(n api.Nat) string {
	rest := Norm(n)
	if len(rest) == 0 {
		return "0"
	}
	text := make([]byte, wordDigits*len(rest)+pieceDigits)
	at := len(text)
	for len(rest) > 0 {
		piece := cut(rest, pieceScale)
		rest = trim(rest)
		for range pieceDigits {
			at--
			text[at] = '0' + byte(piece%10)
			piece /= 10
		}
	}
	for text[at] == '0' {
		at++
	}
	return string(text[at:])
}

// Parse reads decimal digits.
func Parse(s string) (api.Nat, api.Errno) {
	if s == "0" {
		return nil, api.OK
	}
	if s == "" || s[0] == '0' {
		return nil, api.ErrForm
	}
	var n api.Nat
	at := 0
digits:
	for at < len(s) {
		piece, scale := uint32(0), uint32(1)
		for ; scale < pieceScale && at < len(s); at++ {
			if s[at] < '0' || s[at] > '9' {
				break digits
			}
			piece = 10*piece + uint32(s[at]-'0')
			scale *= 10
		}
		// What has become long is read on for its form alone.
		if !long(n) {
			n = grow(n, scale, piece)
		}
	}
	if at < len(s) {
		return nil, api.ErrForm
	}
	return unlessLong(n)
}

// grow is n times by and more, in n's own memory as far as it goes.
func grow(n api.Nat, by, more uint32) api.Nat {
	carry := uint64(more)
	for i, w := range n {
		t := uint64(w)*uint64(by) + carry
		n[i], carry = uint32(t), t>>wordBits
	}
	if carry > 0 {
		n = append(n, uint32(carry))
	}
	return n
}
