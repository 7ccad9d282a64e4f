package store

import (
	"bytes"
	"slices"
	"strings"
	"testing"

	"steelyard/api"
	"steelyard/shard"
)

// one are the bytes E of the chapter's examples, by chapter 21: of the number 1 alone.
func one() []byte {
	return slices.Concat(
		make([]byte, 40), []byte{1, 0, 0, 0, 0, 0, 0, 0},
		[]byte{0, 0, 16, 1, 0, 1, 0, 0, 0},
		[]byte{0, 0, 16, 1, 0, 1, 0, 0, 0},
		[]byte{0, 0, 0, 0, 0, 0, 240, 63}, []byte{0, 0, 0, 0, 0, 0, 240, 63},
	)
}

// oneAs is the log of the examples: of a shard of 1 alone, as a.
func oneAs(t *testing.T) *Log {
	t.Helper()
	l := New()
	puts(t, l, "a", of(1))
	return l
}

func TestExampleSums(t *testing.T) {
	for text, want := range map[string]uint32{"": 0x811C9DC5, "\x61": 0xE40C292C, "\x61\x62": 0x4D2505CA} {
		if got := sum([]byte(text)); got != want {
			t.Errorf("the sum of %q: %X; want %X", text, got, want)
		}
	}
}

func TestExampleAppend(t *testing.T) {
	l := oneAs(t)
	e := one()
	k := len(e)
	if k != 82 {
		t.Fatalf("E has %d bytes", k)
	}
	head := slices.Concat([]byte{0x01, 0x61, byte(k), 0, 0}, e)
	h := sum(head)
	want := append(head, byte(h), byte(h>>8), byte(h>>16), byte(h>>24))
	alike(t, "Bytes", l.Bytes(), want)
	if len(l.Bytes()) != k+9 {
		t.Errorf("%d bytes; want %d", len(l.Bytes()), k+9)
	}
	if a, b := l.Append("", of(1)), l.Append(strings.Repeat("a", 65), of(1)); a != api.ErrArg || b != api.ErrArg {
		t.Errorf("no name: error %d; of 65 bytes: error %d", a, b)
	}
	alike(t, "Bytes as they were", l.Bytes(), want)
}

func TestExampleTold(t *testing.T) {
	l := oneAs(t)
	if got := l.Names(); !slices.Equal(got, []string{"a"}) {
		t.Errorf("Names %q", got)
	}
	if r := l.Records(); len(r) != 1 || r[0].Name != "a" || !bytes.Equal(r[0].Data, one()) {
		t.Errorf("Records %v", r)
	}
	if s, e := l.Total("a"); e != api.OK || s == nil || s.Count() != 1 {
		t.Errorf("Total of a: %v, error %d", s, e)
	}
	if s, e := l.Total("b"); e != api.ErrNone || s != nil {
		t.Errorf("Total of b: %v, error %d", s, e)
	}
}

func TestExampleReplay(t *testing.T) {
	b := oneAs(t).Bytes()
	g := ledger{{"a", one()}}
	replays(t, "Bytes", b, g, api.OK)
	replays(t, "none", nil, nil, api.OK)
	replays(t, "without the last byte", b[:len(b)-1], nil, api.ErrTorn)
	replays(t, "01", []byte{0x01}, nil, api.ErrTorn)
	replays(t, "00", []byte{0x00}, nil, api.ErrForm)
	replays(t, "41 61", []byte{0x41, 0x61}, nil, api.ErrForm)
	twice := slices.Concat(b, b)
	twice[len(twice)-1] ^= 0x01
	replays(t, "twice, the last byte turned", twice, g, api.ErrSum)
	replays(t, "no data", record("a", nil), nil, api.ErrShard)
}

func TestExampleCompact(t *testing.T) {
	l := New()
	puts(t, l, "b", of(2))
	puts(t, l, "a", of(1))
	puts(t, l, "b", of(3))
	both := []string{"a", "b"}
	if got := l.Names(); !slices.Equal(got, both) {
		t.Errorf("Names %q", got)
	}
	s, e := l.Total("b")
	if e != api.OK {
		t.Fatalf("Total of b: error %d", e)
	}
	if x, e := s.Sum(api.Even, carry); e != api.OK || x != 5 {
		t.Errorf("its Sum: %v, error %d", x, e)
	}
	c := l.Compact()
	if got := c.Names(); !slices.Equal(got, both) || len(c.Records()) != 2 {
		t.Errorf("Compact: Names %q, %d records", got, len(c.Records()))
	}
	holds(t, "Compact", c, ledger{{"a", of(1).Encode()}, {"b", of(3, 2).Encode()}})
}

// The tenth example of the whole: a log of some shards, cut in the midst of its last record, tells the records ahead of it.
func TestExampleOfTheWhole(t *testing.T) {
	l, g := New(), ledger(nil)
	for _, s := range []*shard.Shard{of(1, 2), of(3), of(3, 1, 2)} {
		puts(t, l, "x", s)
		g = g.with("x", s)
	}
	b := l.Bytes()
	middle := (len(g[:2].bytes()) + len(b)) / 2
	replays(t, "cut", b[:middle], g[:2], api.ErrTorn)
	cut, _, _ := Replay(b[:middle])
	s, e := cut.Total("x")
	if e != api.OK {
		t.Fatalf("Total: error %d", e)
	}
	alike(t, "either way", s.Encode(), of(3, 1, 2).Encode())
}
