package segment

import (
	"slices"

	"shapesearch/api"
	"shapesearch/codec"
	"shapesearch/whole"
)

// kind is a way to keep the samples of a segment as data. The Kind and the Sum of a head do not matter for them.
type kind interface {
	// encode returns the data, and whether the samples can be kept in this way.
	encode(l []int, h api.Head) ([]byte, bool)
	// decode returns the samples, and whether there are some. They may have other data.
	decode(data []byte, h api.Head) ([]int, bool)
}

type (
	constant struct{}
	packed   struct{}
	delta    struct{}
)

// kinds returns all kinds by their numbers.
func kinds() []kind {
	return []kind{
		api.SegmentConstant: constant{},
		api.SegmentPacked:   packed{},
		api.SegmentDelta:    delta{},
	}
}

func (constant) encode(_ []int, h api.Head) ([]byte, bool) {
	return nil, h.Least == h.Greatest
}

func (constant) decode(_ []byte, h api.Head) ([]int, bool) {
	return slices.Repeat([]int{h.Least}, h.Count), true
}

// width returns the number of bits of a packed sample.
func (packed) width(h api.Head) int {
	return codec.Width([]int{h.Greatest - h.Least})
}

func (p packed) encode(l []int, h api.Head) ([]byte, bool) {
	above := make([]int, len(l))
	for i, n := range l {
		above[i] = n - h.Least
	}
	data, e := codec.Pack(above, p.width(h))
	return data, e == api.OK
}

func (p packed) decode(data []byte, h api.Head) ([]int, bool) {
	l, e := codec.Unpack(data, p.width(h), h.Count)
	for i := range l {
		l[i] += h.Least
	}
	return l, e == api.OK
}

func (delta) encode(l []int, _ api.Head) ([]byte, bool) {
	steps := make([]int, len(l)-1)
	for i := range steps {
		steps[i] = int(whole.Fold(l[i+1] - l[i]))
	}
	width := codec.Width(steps)
	bits, e := codec.Pack(steps, width)
	data := append(codec.PutInt(nil, l[0]), byte(width))
	return append(data, bits...), e == api.OK
}

func (delta) decode(data []byte, h api.Head) ([]int, bool) {
	first, at, e := codec.Int(data, 0)
	if e != api.OK || at == len(data) {
		return nil, false
	}
	steps, e := codec.Unpack(data[at+1:], int(data[at]), h.Count-1)
	l := []int{first}
	for i, step := range steps {
		l = append(l, l[i]+whole.Unfold(uint64(step)))
	}
	return l, e == api.OK
}
