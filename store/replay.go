package store

import (
	"bytes"
	"errors"
	"strconv"

	"steelyard/api"
)

// Why something is amiss with a record.
var (
	errForm  = errors.New("no name has so many bytes")
	errTorn  = errors.New("the bytes end in its midst")
	errSum   = errors.New("its sum is not right")
	errShard = errors.New("its data is no shard's")
)

// fault says where the record begins with which something is amiss, about an error that says why.
type fault struct {
	at  int
	why error
}

func (f *fault) Error() string {
	return "the record at byte " + strconv.Itoa(f.at) + ": " + f.why.Error()
}

func (f *fault) Unwrap() error { return f.why }

// Replay reads a log's bytes: what was whole, and how many bytes that was.
func Replay(b []byte) (*Log, int, api.Errno) {
	if len(b) > api.MaxBytes {
		return nil, 0, api.ErrLong
	}
	n, e := whole(b)
	return &Log{laid: bytes.Clone(b[:n])}, n, e
}

// whole is how many bytes the records have ahead of the first one with which something is amiss, and what that is.
func whole(b []byte) (int, api.Errno) {
	for _, err := range rows(b, proven) {
		var f *fault
		if errors.As(err, &f) {
			return f.at, errno(err)
		}
	}
	return len(b), api.OK
}

// errno is the number of what is amiss.
func errno(err error) api.Errno {
	switch {
	case errors.Is(err, errForm):
		return api.ErrForm
	case errors.Is(err, errTorn):
		return api.ErrTorn
	case errors.Is(err, errSum):
		return api.ErrSum
	case errors.Is(err, errShard):
		return api.ErrShard
	}
	return api.OK
}
