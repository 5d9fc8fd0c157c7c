// Package seal has the checksum at the end of packets and segments.
package seal

import (
	"bytes"

	"shapesearch/codec"
)

// Bytes is how many bytes a seal has.
const Bytes = 4

// Of returns the seal of bytes: their checksum, its lowest byte first.
func Of(b []byte) []byte {
	s := codec.Sum(b)
	return []byte{byte(s), byte(s >> 8), byte(s >> 16), byte(s >> 24)}
}

// Holds reports whether bytes end with the seal of all those before it.
func Holds(b []byte) bool {
	end := len(b) - Bytes
	return end >= 0 && bytes.Equal(Of(b[:end]), b[end:])
}
