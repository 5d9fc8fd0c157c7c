package script

import (
	"strconv"

	"shapesearch/apart"
	"shapesearch/api"
	"shapesearch/bulk"
	"shapesearch/certificate"
	"shapesearch/motif"
	"shapesearch/nearest"
	"shapesearch/profile"
	"shapesearch/ratio"
	"shapesearch/store"
	"shapesearch/tree"
	"shapesearch/within"
)

const (
	many   = api.MaxScript // more numbers than a line has
	memory = 16            // for loading trees
	fan    = 4
)

// command is how many numbers a command has, and what it does with them.
type command struct {
	least, most int
	gaps        bool // - may stand for a number
	question    bool // it is repeated ahead of its output
	run         func(c *console, n []int) (string, api.Errno)
}

// console is what the commands so far have set.
type console struct {
	store    api.Store
	scheme   api.Scheme
	capacity int // 0 ahead of the first scheme
}

// commands returns all commands by their names.
func commands() map[string]command {
	return map[string]command{
		"series":  {least: 1, most: many, gaps: true, run: addSeries},
		"scheme":  {least: 6, most: many, run: setScheme},
		"nearest": {least: 2, most: many, question: true, run: askNearest},
		"within":  {least: 3, most: many, question: true, run: askWithin},
		"apart":   {least: 3, most: many, question: true, run: askApart},
		"prove":   {least: 2, most: many, question: true, run: askProof},
		"motif":   {least: 2, most: 2, question: true, run: askMotif},
	}
}

func addSeries(c *console, n []int) (string, api.Errno) {
	c.store.Series = append(c.store.Series, n)
	if store.Check(c.store) != api.OK {
		return "", api.ErrStore
	}
	return "", api.OK
}

func setScheme(c *console, n []int) (string, api.Errno) {
	c.scheme = api.Scheme{
		Measure: api.Measure{Kind: n[0], Band: n[1], Gap: n[2]},
		Length:  n[3],
		Pieces:  n[4],
		Cuts:    n[6:],
	}
	c.capacity = n[5]
	_, e := tree.New(c.scheme, c.capacity)
	return "", e
}

// load returns the tree of the store.
func (c *console) load() (api.Tree, api.Errno) {
	if c.capacity == 0 {
		return api.Tree{}, api.ErrWord
	}
	t, _, e := bulk.Load(c.scheme, c.capacity, c.store, memory, fan)
	return t, e
}

func askNearest(c *console, n []int) (string, api.Errno) {
	t, e := c.load()
	if e != api.OK {
		return "", e
	}
	hits, _, e := nearest.Search(t, c.store, c.scheme.Measure, n[1:], n[0])
	return Hits(hits), e
}

func askWithin(c *console, n []int) (string, api.Errno) {
	t, e := c.load()
	if e != api.OK {
		return "", e
	}
	limit, e := ratio.Make(n[0], n[1])
	if e != api.OK {
		return "", e
	}
	hits, _, e := within.Search(t, c.store, c.scheme.Measure, n[2:], limit)
	return Hits(hits), e
}

func askApart(c *console, n []int) (string, api.Errno) {
	t, e := c.load()
	if e != api.OK {
		return "", e
	}
	hits, e := apart.Search(t, c.store, c.scheme.Measure, n[2:], n[0], n[1])
	return Hits(hits), e
}

func askProof(c *console, n []int) (string, api.Errno) {
	t, e := c.load()
	if e != api.OK {
		return "", e
	}
	m, query, count := c.scheme.Measure, n[1:], n[0]
	proof, e := certificate.Nearest(t, c.store, m, query, count)
	if e != api.OK {
		return "", e
	}
	hits, e := certificate.CheckNearest(c.scheme, c.store, m, query, count, proof)
	if e != api.OK {
		return "", e
	}
	excluded := 0
	for _, b := range proof {
		if len(b.Places) > 0 {
			excluded++
		}
	}
	return Hits(hits) + "blocks " + strconv.Itoa(excluded) + "\n", api.OK
}

func askMotif(c *console, n []int) (string, api.Errno) {
	if _, e := c.load(); e != api.OK {
		return "", e
	}
	series, zone := n[0], n[1]
	if series < 0 || series >= len(c.store.Series) {
		return "", api.ErrPlace
	}
	p, e := profile.Of(c.store.Series[series], c.scheme.Measure, c.scheme.Length, zone)
	if e != api.OK {
		return "", e
	}
	pairs, e := motif.Pairs(p, 1)
	if e != api.OK {
		return "", e
	}
	if len(pairs) == 0 {
		return "motif none\n", api.OK
	}
	x := pairs[0]
	return "motif " + strconv.Itoa(x.A) + " " + strconv.Itoa(x.B) + " " + ratio.Format(x.Distance) + "\n", api.OK
}
