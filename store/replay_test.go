package store

import (
	"bytes"
	"fmt"
	"slices"
	"strings"
	"testing"

	"steelyard/api"
	"steelyard/shard"
)

// fronts are records that stand ahead of what is amiss: none, one, several.
func fronts() []ledger {
	g := ledger(nil).with("a", of(1)).with(strings.Repeat("\xff", mostName), of(hole, inf)).with("a", of())
	return []ledger{nil, g[:1], g[1:], g}
}

// amiss fails unless Replay tells this error of some bytes, behind any records, and whatever follows: and beside it these records, and their bytes.
func amiss(t *testing.T, what string, b []byte, e api.Errno) {
	t.Helper()
	for _, g := range fronts() {
		at := fmt.Sprintf("%s, behind %d records", what, len(g))
		replays(t, at, append(g.bytes(), b...), g, e)
		if e != api.ErrTorn {
			replays(t, at+", with more behind", slices.Concat(g.bytes(), b, record("more", of(2).Encode())), g, e)
			replays(t, at+", with less behind", slices.Concat(g.bytes(), b, []byte{0}), g, e)
		}
	}
}

// P22.3: no bytes are a log of no records.
func TestReplayNone(t *testing.T) {
	for _, b := range [][]byte{nil, {}, make([]byte, 0, 9)} {
		replays(t, "none", b, nil, api.OK)
	}
}

// P22.3: records of all kinds.
func TestReplayWhole(t *testing.T) {
	for _, g := range fronts() {
		replays(t, "whole", g.bytes(), g, api.OK)
	}
	var g ledger
	for _, name := range names() {
		for _, l := range some() {
			g = g.with(name, of(l...))
		}
	}
	replays(t, "all kinds", g.bytes(), g, api.OK)
}

// P22.3: a first byte that is 0, or above MaxName: ErrForm, whatever is behind it, be it nothing.
func TestFirstByte(t *testing.T) {
	data := of(1).Encode()
	for c := range 256 {
		e := api.ErrForm
		if c >= 1 && c <= mostName {
			e = api.ErrTorn
		}
		amiss(t, fmt.Sprintf("%d alone", c), []byte{byte(c)}, e)
		for _, g := range fronts() {
			asRead(t, "a long way behind", slices.Concat(g.bytes(), []byte{byte(c)}, make([]byte, 700)))
		}
		if e == api.ErrForm {
			amiss(t, fmt.Sprintf("a name of %d bytes, all else right", c), record(strings.Repeat("n", c), data), e)
			amiss(t, fmt.Sprintf("a name of %d bytes, its sum not right", c), append([]byte{byte(c)}, make([]byte, 400)...), e)
			amiss(t, fmt.Sprintf("a name of %d bytes, its data refused", c), record(strings.Repeat("n", c), nil), e)
		}
	}
	for n := 1; n <= mostName; n++ {
		g := ledger{{strings.Repeat("n", n), data}}
		replays(t, "a name that may be", g.bytes(), g, api.OK)
	}
}

// P22.3: an end at every place of a record: ErrTorn.
func TestTornAtEveryPlace(t *testing.T) {
	for _, name := range []string{"a", "ab", "\x00", strings.Repeat("\xff", mostName)} {
		for _, l := range some() {
			b := record(name, of(l...).Encode())
			for n := 1; n < len(b); n++ {
				amiss(t, fmt.Sprintf("%d bytes of %d", n, len(b)), b[:n], api.ErrTorn)
			}
		}
	}
}

// P22.3: torn is asked ahead of the sum, and of the data.
func TestTornAheadOfTheSum(t *testing.T) {
	for _, data := range [][]byte{nil, {0}, make([]byte, 58), of(1).Encode(), bytes.Repeat([]byte{0}, 255), bytes.Repeat([]byte{1}, 256), make([]byte, 70000)} {
		b := record("name", data)
		for _, n := range []int{len(b) - 1, len(b) - 2, len(b) - 3, len(b) - 4, len(b) - 5, len(b) - 6, 8, 7, 6, 5, 4, 1} {
			if n > 0 && n < len(b) {
				amiss(t, "torn", b[:n], api.ErrTorn)
				turned := slices.Clone(b[:n])
				turned[n-1] ^= 0x40
				if n > 8 {
					amiss(t, "torn and turned", turned, api.ErrTorn)
				}
			}
		}
	}
}

// P22.3: how many bytes the data has is told by three bytes, the lowest first.
func TestLengthsOfData(t *testing.T) {
	none := make([]byte, 700)
	for _, n := range []int{701, 256 * 4, 65536, 65537, 1 << 20, 1<<24 - 1, 0xFF0000, 0x010000, 0x00FF00} {
		size := []byte{byte(n), byte(n >> 8), byte(n >> 16)}
		amiss(t, fmt.Sprintf("%d bytes that are not there", n), slices.Concat([]byte{1, 'a'}, size, none), api.ErrTorn)
	}
	for _, n := range []int{0, 1, 57, 255, 256, 257, 511, 65535, 65536, 65537, 0x010203, 0x030201, 500000} {
		b := record("a", bytes.Repeat([]byte{1}, n))
		amiss(t, fmt.Sprintf("%d bytes that are no shard", n), b, api.ErrShard)
		amiss(t, fmt.Sprintf("%d bytes, without the last of the sum", n), b[:len(b)-1], api.ErrTorn)
		turned := with(b, len(b)-1, b[len(b)-1]^1)
		amiss(t, fmt.Sprintf("%d bytes, the sum not right", n), turned, api.ErrSum)
	}
}

// P22.3: a sum with any of its bytes another one: ErrSum; likewise the sum of too few bytes, of too many, turned about.
func TestSumsThatAreNotRight(t *testing.T) {
	data := of(1, 3).Encode()
	b := record("ab", data)
	head := b[:len(b)-behind]
	for i := range behind {
		for c := range 256 {
			if at := len(head) + i; b[at] != byte(c) {
				amiss(t, "another byte", with(b, at, byte(c)), api.ErrSum)
			}
		}
	}
	tail := func(of []byte) []byte { return summed(of)[len(of):] }
	high := slices.Clone(tail(head))
	slices.Reverse(high)
	for what, wrong := range map[string][]byte{
		"the highest byte first": high, "of no bytes": tail(nil), "noughts": make([]byte, 4), "all bits": {255, 255, 255, 255},
		"without the first byte": tail(head[1:]), "without the lengths": tail(slices.Concat([]byte("ab"), data)), "of the data": tail(data),
		"without the last byte": tail(head[:len(head)-1]), "of the name": tail([]byte("ab")), "of the sum, too": tail(b),
	} {
		amiss(t, what, slices.Concat(head, wrong), api.ErrSum)
	}
}

// refusals are bytes that are no shard's.
func refusals() [][]byte {
	two := of(1, 3).Encode()
	l := [][]byte{
		nil, {0}, {1, 2, 3}, make([]byte, 57), make([]byte, 58), make([]byte, 59), two[:len(two)-1], two[1:], append(slices.Clone(two), 0), slices.Concat(two, two),
		with(two, 40, 1), with(two, 62, 4), with(two, 62, 3), slices.Concat(two[:66], two[74:], two[66:74]), bytes.Repeat([]byte{255}, 900), make([]byte, 3000),
	}
	return l
}

// P22.3: a sum that is right, of data that Decode refuses: ErrShard; with a sum that is not right: ErrSum.
func TestDataThatIsRefused(t *testing.T) {
	for _, data := range refusals() {
		if _, e := shard.Decode(data); e != api.ErrShard {
			t.Fatalf("Decode takes %v", data)
		}
		for _, name := range []string{"a", strings.Repeat("x", mostName)} {
			b := record(name, data)
			amiss(t, "data that is refused", b, api.ErrShard)
			amiss(t, "and a sum that is not right", with(b, len(b)-2, b[len(b)-2]^0x10), api.ErrSum)
			amiss(t, "and an end ahead of it", b[:len(b)-2], api.ErrTorn)
		}
	}
}

// P22.3: the first record with which something is amiss tells the error, whatever is amiss behind it.
func TestTheFirstOne(t *testing.T) {
	good := record("good", of(5).Encode())
	bad := map[api.Errno][]byte{
		api.ErrForm:  {0},
		api.ErrSum:   with(good, 2, 'x'),
		api.ErrShard: record("a", []byte{1}),
	}
	for e, first := range bad {
		for _, second := range bad {
			for _, between := range [][]byte{nil, good} {
				amiss(t, "two of them", slices.Concat(first, between, second), e)
			}
		}
		amiss(t, "torn behind it", slices.Concat(first, good[:9]), e)
		amiss(t, "whole behind it", slices.Concat(first, good, good), e)
	}
}

// P22.3: of more than MaxBytes bytes: ErrLong, nil and 0, whatever they are.
func TestTooLong(t *testing.T) {
	room := ledger(nil).with(lasting(67), of())
	l, g := filled(t, 0)
	_, less := filled(t, 66)
	b := l.Bytes()
	for what, long := range map[string][]byte{
		"a log and a nought": append(slices.Clone(b), 0), "a log and a byte": append(slices.Clone(b), 1), "a log and a record": slices.Concat(b, room.bytes()),
		"one record more than there is room for": slices.Concat(less.bytes(), room.bytes()),
		"noughts":                                make([]byte, mostBytes+1), "ones": bytes.Repeat([]byte{1}, mostBytes+1), "twice as many": slices.Concat(b, b), "many": make([]byte, 1<<24),
		"a record of no shard": record("a", make([]byte, mostBytes+1-9)),
	} {
		if l, n, e := Replay(long); l != nil || n != 0 || e != api.ErrLong {
			t.Errorf("%s: %v, %d, error %d", what, l != nil, n, e)
		}
	}
	alike(t, "the log stays", l.Bytes(), g.bytes())
}

// P22.3: of just MaxBytes bytes, and of one less.
func TestJustMaxBytes(t *testing.T) {
	l, g := filled(t, 0)
	b := l.Bytes()
	if len(b) != mostBytes {
		t.Fatalf("%d bytes", len(b))
	}
	told := func(what string, b []byte, n, records int, is api.Errno) {
		t.Helper()
		l, whole, e := Replay(b)
		if l == nil || whole != n || e != is || len(l.Records()) != records || !bytes.Equal(l.Bytes(), b[:n]) {
			t.Errorf("%s: %v, %d bytes, error %d; want %d, %d", what, l != nil, whole, e, n, is)
		}
	}
	last := mostBytes - len(record(g[len(g)-1].name, g[len(g)-1].data))
	told("just full", b, mostBytes, len(g), api.OK)
	told("one byte less", b[:mostBytes-1], last, len(g)-1, api.ErrTorn)
	told("its last sum turned", with(b, mostBytes-1, b[mostBytes-1]^1), last, len(g)-1, api.ErrSum)
	told("its last name turned", with(b, last+1, b[last+1]^1), last, len(g)-1, api.ErrSum)
	told("its last length 0", with(b, last, 0), last, len(g)-1, api.ErrForm)
	told("its last length too great", with(b, last, 65), last, len(g)-1, api.ErrForm)
	told("noughts", make([]byte, mostBytes), 0, 0, api.ErrForm)
	told("ones", bytes.Repeat([]byte{1}, mostBytes), 0, 0, api.ErrSum)
	told("all bits", bytes.Repeat([]byte{255}, mostBytes), 0, 0, api.ErrForm)
	told("a record of no shard", record("a", make([]byte, mostBytes-9)), 0, 0, api.ErrShard)
	less, known := filled(t, 1)
	told("a byte behind", append(less.Bytes(), 1), mostBytes-1, len(known), api.ErrTorn)
	told("a nought behind", append(less.Bytes(), 0), mostBytes-1, len(known), api.ErrForm)
}

// P22.3: what was whole is a log that goes on.
func TestReplayGoesOn(t *testing.T) {
	good := record("b", of(7).Encode())
	for _, g := range fronts() {
		for _, rest := range [][]byte{nil, {0}, {1}, good[:20], with(good, 2, 9), record("c", nil)} {
			l, _, _ := Replay(append(g.bytes(), rest...))
			more := g
			for _, name := range []string{"a", "zz", "\x00"} {
				puts(t, l, name, of(4, hole))
				more = more.with(name, of(4, hole))
				holds(t, "goes on", l, more)
			}
			if e := l.Append("", of()); e != api.ErrArg {
				t.Errorf("no name: error %d", e)
			}
			replays(t, "and is read again", l.Bytes(), more, api.OK)
		}
	}
}

// P22.3: every byte of some logs as each other byte: what is told is what the test's own reading tells.
func TestEveryByte(t *testing.T) {
	seen := map[api.Errno]int{}
	for _, g := range fronts() {
		b := g.bytes()
		for at := range b {
			was := b[at]
			for c := range 256 {
				b[at] = byte(c)
				seen[asRead(t, "another byte", b)]++
			}
			b[at] = was
		}
	}
	for _, e := range []api.Errno{api.OK, api.ErrForm, api.ErrTorn, api.ErrSum} {
		if seen[e] < 40 {
			t.Errorf("the error %d: only %d times", e, seen[e])
		}
	}
}

// P22.3: some bytes as others, bytes too many and too few, with sums made right again and not.
func TestSomeBytes(t *testing.T) {
	d := dice(2203)
	seen := map[api.Errno]int{}
	for range 6000 {
		var b []byte
		for range d.below(4) {
			r := record(d.name(25), of(d.list(d.below(3))...).Encode())
			if d.below(4) == 0 {
				r[1+d.below(len(r)-1)] = byte(d.below(256))
				r = summed(r[:len(r)-behind])
			}
			b = append(b, r...)
		}
		for range d.below(2) {
			switch at := d.below(len(b) + 1); d.below(4) {
			case 0:
				b = slices.Insert(b, at, byte(d.below(70)))
			case 1:
				b = b[:at]
			case 2:
				b = slices.Delete(b, at, min(at+1, len(b)))
			default:
				b = append(b[:at], bytes.Repeat([]byte{byte(d.below(70))}, len(b)-at)...)
			}
		}
		seen[asRead(t, "other bytes", b)]++
	}
	for _, e := range []api.Errno{api.OK, api.ErrForm, api.ErrTorn, api.ErrSum, api.ErrShard} {
		if seen[e] < 20 {
			t.Errorf("the error %d: only %d times", e, seen[e])
		}
	}
}
