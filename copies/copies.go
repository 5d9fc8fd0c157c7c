// Package copies makes copies that share no memory with what they are copies of.
package copies

import (
	"slices"

	"shapesearch/api"
)

// Word returns a copy of a word.
func Word(w api.Word) api.Word {
	return api.Word{Symbols: slices.Clone(w.Symbols), Bits: slices.Clone(w.Bits)}
}

// Scheme returns a copy of a scheme.
func Scheme(s api.Scheme) api.Scheme {
	s.Cuts = slices.Clone(s.Cuts)
	return s
}

// Entries returns copies of entries.
func Entries(l []api.Entry) []api.Entry {
	return each(l, func(e api.Entry) api.Entry { return api.Entry{Word: Word(e.Word), Place: e.Place} })
}

// Tree returns a copy of a tree.
func Tree(t api.Tree) api.Tree {
	t.Scheme = Scheme(t.Scheme)
	t.Nodes = each(t.Nodes, func(n api.Node) api.Node {
		n.Word, n.Entries = Word(n.Word), Entries(n.Entries)
		return n
	})
	return t
}

// Device returns a copy of a device.
func Device(d api.Device) api.Device {
	return api.Device{
		Pages:   each(d.Pages, func(b []byte) []byte { return slices.Clone(b) }),
		Pending: each(d.Pending, func(w api.Write) api.Write { return api.Write{Page: w.Page, Bytes: slices.Clone(w.Bytes)} }),
	}
}

// Progress returns a copy of a search under way.
func Progress(p api.Progress) api.Progress {
	p.Query, p.Best, p.Open = slices.Clone(p.Query), slices.Clone(p.Best), slices.Clone(p.Open)
	return p
}

// Growing returns a copy of a series with its profile.
func Growing(g api.Growing) api.Growing {
	g.Values = slices.Clone(g.Values)
	p := &g.Profile
	p.All, p.Left, p.Right = slices.Clone(p.All), slices.Clone(p.Left), slices.Clone(p.Right)
	return g
}

// Watches returns copies of watches.
func Watches(l []api.Watch) []api.Watch {
	return each(l, func(w api.Watch) api.Watch {
		w.Query = slices.Clone(w.Query)
		return w
	})
}

// Stream returns a copy of the state of watches.
func Stream(s api.Stream) api.Stream {
	s.Watches, s.Recent, s.Groups = Watches(s.Watches), slices.Clone(s.Recent), slices.Clone(s.Groups)
	return s
}

func each[T any](l []T, copyOf func(T) T) []T {
	if l == nil {
		return nil
	}
	m := make([]T, len(l))
	for i, x := range l {
		m[i] = copyOf(x)
	}
	return m
}
