package heap

import (
	"bytes"

	"shapesearch/api"
	"shapesearch/device"
)

const (
	roots      = 2 // pages ahead of the areas
	areas      = 2
	maxVersion = 1<<31 - 1
	stamps     = 250
)

// root is what the root of a version says: the version, and how many bytes its records have.
type root struct{ version, size int }

// page returns the page of a root.
func (r root) page() int {
	return r.version % roots
}

// bytes returns the page that a root is.
func (r root) bytes() []byte {
	b := make([]byte, api.PageBytes)
	stamp := byte(1 + r.version%stamps)
	b[0], b[len(b)-1] = stamp, stamp
	for i := range 4 {
		b[1+i] = byte(r.version >> (24 - 8*i))
		b[5+i] = byte(r.size >> (24 - 8*i))
	}
	return b
}

// readRoot returns the root on a page, or none if it is not good.
func readRoot(d api.Device, page int) root {
	b, e := device.Read(d, page)
	if e != api.OK {
		return root{}
	}
	var r root
	for i := range 4 {
		r.version = r.version<<8 | int(b[1+i])
		r.size = r.size<<8 | int(b[5+i])
	}
	if r.version < 1 || r.version > maxVersion || r.page() != page || pagesOf(r.size) > Area(d) || !bytes.Equal(b, r.bytes()) {
		return root{}
	}
	return r
}

// newest returns the good root with the greatest version, or none.
func newest(d api.Device) root {
	var best root
	for page := range roots {
		if r := readRoot(d, page); r.version > best.version {
			best = r
		}
	}
	return best
}

// firstPage returns the first page of the area of a version.
func firstPage(d api.Device, version int) int {
	return roots + version%areas*Area(d)
}

// pagesOf returns how many pages some bytes need.
func pagesOf(size int) int {
	return (size + api.PageBytes - 1) / api.PageBytes
}
