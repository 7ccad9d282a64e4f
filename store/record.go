package store

import (
	"iter"

	"steelyard/api"
	"steelyard/shard"
)

// How many bytes tell a record's lengths, and its sum.
const (
	byteBits  = 8
	nameBytes = 1
	dataBytes = 3
	sumBytes  = 4
)

// What a sum begins as, and what it is multiplied by for each byte.
const (
	sumOfNone = 2166136261
	sumFactor = 16777619
)

// sum is that of some bytes.
func sum(b []byte) uint32 {
	h := uint32(sumOfNone)
	for _, c := range b {
		h = (h ^ uint32(c)) * sumFactor
	}
	return h
}

// written is a record's bytes.
func written(name string, data []byte) []byte {
	b := appendLow(nil, len(name), nameBytes)
	b = append(b, name...)
	b = appendLow(b, len(data), dataBytes)
	b = append(b, data...)
	return appendLow(b, int(sum(b)), sumBytes)
}

// appendLow lays a number's n lowest bytes behind some others, the lowest first.
func appendLow(b []byte, number, n int) []byte {
	for i := range n {
		b = append(b, byte(number>>(byteBits*i)))
	}
	return b
}

// low is the number that some bytes are, the lowest first.
func low(b []byte) int {
	number := 0
	for i, c := range b {
		number |= int(c) << (byteBits * i)
	}
	return number
}

// row is a record as it stands among other bytes. These are not copied: what is handed out of them must be.
type row struct {
	name string
	data []byte
	all  []byte
}

// rows goes through the records of some bytes, from the left, each as it is taken off what is left. At the first one with which something is amiss it says so, and where, and ends.
func rows(b []byte, take func(left []byte) (row, error)) iter.Seq2[row, error] {
	return func(yield func(row, error) bool) {
		for at := 0; at < len(b); {
			r, why := take(b[at:])
			if why != nil {
				yield(row{}, &fault{at: at, why: why})
				return
			}
			if !yield(r, nil) {
				return
			}
			at += len(r.all)
		}
	}
}

// cut takes a record off by its lengths alone, which is enough for a log's own bytes. There is at least one byte left.
func cut(left []byte) (row, error) {
	length := int(left[0])
	if length < 1 || length > api.MaxName {
		return row{}, errForm
	}
	nameEnd := nameBytes + length
	data := nameEnd + dataBytes
	if data > len(left) {
		return row{}, errTorn
	}
	dataEnd := data + low(left[nameEnd:data])
	end := dataEnd + sumBytes
	if end > len(left) {
		return row{}, errTorn
	}
	return row{name: string(left[nameBytes:nameEnd]), data: left[data:dataEnd], all: left[:end]}, nil
}

// proven takes a record off, and asks whether it is as it was written.
func proven(left []byte) (row, error) {
	r, why := cut(left)
	if why != nil {
		return row{}, why
	}
	ahead := len(r.all) - sumBytes
	if low(r.all[ahead:]) != int(sum(r.all[:ahead])) {
		return row{}, errSum
	}
	if _, e := shard.Decode(r.data); e != api.OK {
		return row{}, errShard
	}
	return r, nil
}
