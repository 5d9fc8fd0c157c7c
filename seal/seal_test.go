package seal_test

import (
	"bytes"
	"testing"

	"shapesearch/seal"
)

func TestSeal(t *testing.T) {
	b := []byte("123456789")
	if !bytes.Equal(seal.Of(b), []byte{0x26, 0x39, 0xF4, 0xCB}) {
		t.Errorf("the seal is %x", seal.Of(b))
	}
	sealed := append(b, seal.Of(b)...)
	if !seal.Holds(sealed) || !seal.Holds(seal.Of(nil)) || seal.Holds(b) || seal.Holds([]byte{0, 0, 0}) {
		t.Error("Holds is wrong")
	}
	for i := range sealed {
		sealed[i]++
		if seal.Holds(sealed) {
			t.Errorf("the seal holds when the byte %d is changed", i)
		}
		sealed[i]--
	}
}
