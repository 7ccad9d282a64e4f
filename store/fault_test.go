package store

import (
	"errors"
	"strconv"
	"strings"
	"testing"

	"steelyard/api"
)

// P22.3: what is amiss says where, about an error that says why.
func TestFaults(t *testing.T) {
	good := record("good", of(5).Encode())
	for _, g := range fronts() {
		for why, b := range map[error][]byte{
			errForm: {0}, errTorn: good[:len(good)-1], errSum: with(good, 1, 'x'), errShard: record("a", []byte{1}),
		} {
			var last error
			n := 0
			for r, err := range rows(append(g.bytes(), b...), proven) {
				if last != nil {
					t.Errorf("%v: more behind it", last)
				}
				if err == nil && (r.name != g[n].name || string(r.data) != string(g[n].data)) {
					t.Errorf("the record %d: %q, %v", n, r.name, r.data)
				}
				n++
				last = err
			}
			var f *fault
			if !errors.As(last, &f) || f.at != len(g.bytes()) || n != len(g)+1 {
				t.Errorf("behind %d records: %v", len(g), last)
				continue
			}
			for _, other := range []error{errForm, errTorn, errSum, errShard} {
				if errors.Is(last, other) != (other == why) {
					t.Errorf("%v is %v: %v", last, other, !errors.Is(last, other))
				}
			}
			if text := last.Error(); !strings.Contains(text, strconv.Itoa(f.at)) || !strings.Contains(text, why.Error()) {
				t.Errorf("its text: %q", text)
			}
		}
	}
}

// The numbers of what may be amiss; of nothing it is OK.
func TestErrno(t *testing.T) {
	for why, e := range map[error]api.Errno{errForm: api.ErrForm, errTorn: api.ErrTorn, errSum: api.ErrSum, errShard: api.ErrShard} {
		if errno(why) != e || errno(&fault{at: 7, why: why}) != e || errno(&fault{why: &fault{why: why}}) != e {
			t.Errorf("%v: error %d; want %d", why, errno(why), e)
		}
	}
	if e := errno(nil); e != api.OK {
		t.Errorf("of nothing: error %d", e)
	}
}

// What goes through the records may be left at any of them.
func TestRowsAreLeft(t *testing.T) {
	for _, g := range fronts() {
		for stop := range len(g) + 1 {
			n := 0
			for range rows(append(g.bytes(), 0), cut) {
				if n == stop {
					break
				}
				n++
			}
			if n != stop {
				t.Errorf("left at %d; want %d", n, stop)
			}
		}
	}
}
