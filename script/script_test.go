package script_test

import (
	"math/rand"
	"slices"
	"strconv"
	"strings"
	"testing"

	"shapesearch/apart"
	"shapesearch/api"
	"shapesearch/bulk"
	"shapesearch/certificate"
	"shapesearch/motif"
	"shapesearch/profile"
	"shapesearch/ratio"
	"shapesearch/script"
	"shapesearch/store"
	"shapesearch/trial"
)

// TestParse tests P45.1.
func TestParse(t *testing.T) {
	for _, lines := range [][]string{
		nil,
		{"series 0 1 -2 - 5", "series -", "series 2147483648 -2147483648"},
		{"scheme 1 0 0 2 1 4", "scheme 1 0 0 2 1 4 -5 7 8"},
		{"nearest 1 2", "nearest -5 1 2 3", "within 1 2 3", "apart 1 2 3", "prove 0 0", "motif 0 9", "motif -1 2"},
	} {
		text := ""
		for _, l := range lines {
			text += l + "\n"
		}
		if got, line, e := script.Parse(text); !slices.Equal(got, lines) || line != 0 || e != api.OK {
			t.Errorf("Parse(%q) is %q, %d, %d", text, got, line, e)
		}
	}
	for _, line := range []string{
		"", " ", "series", "series ", "series  1", " series 1", "series 1 ", "Series 1", "series\t1", "series 01", "series 00", "series -0", "series +1", "series --", "series 1.5", "series 1\r", "series x",
		"series 2147483649", "series -2147483649", "series 99999999999999999999", "scheme 1 0 0 2 1", "scheme", "scheme - 0 0 2 1 4", "scheme 1 0 0 2 1 4 -", "nearest 1", "nearest - 1", "nearest 1 -",
		"within 1 2", "within 1/2 3", "apart 1 2", "prove 1", "prove 1 -", "motif 1", "motif 1 2 3", "motif - 2", "nothing 1", "1", "# series 1", "series 1_0",
	} {
		if got, at, e := script.Parse("series 1\n" + line + "\nworse\n"); len(got) > 0 || at != 2 || e != api.ErrForm {
			t.Errorf("Parse(%q) is %q, %d, %d", line, got, at, e)
		}
		if out, at, e := script.Run("series 1\n" + line + "\nworse\n"); out != "" || at != 2 || e != api.ErrForm {
			t.Errorf("Run(%q) is %q, %d, %d", line, out, at, e)
		}
	}
	full := strings.Repeat("series 1\n", api.MaxScript/9) + "\n"
	long := "series -1" + strings.Repeat(" 1", api.MaxScript/2-5)
	for i, v := range []struct {
		text string
		line int
		e    api.Errno
	}{
		{"series 1", 1, api.ErrForm},
		{"series 1\nseries 2", 2, api.ErrForm},
		{"series 1\n\n", 2, api.ErrForm},
		{"x\nseries 2", 1, api.ErrForm},
		{full, api.MaxScript/9 + 1, api.ErrForm},
		{long, 1, api.ErrForm},
		{long + "\n", 0, api.OK},
		{long + "1\n", 0, api.ErrLimit},
		{strings.Repeat("x", api.MaxScript+1), 0, api.ErrLimit},
	} {
		if got, at, e := script.Parse(v.text); at != v.line || e != v.e || e != api.OK && len(got) > 0 {
			t.Errorf("%d: Parse is %q, %d, %d", i, got, at, e)
		}
	}
}

// TestRun tests P45.2 by cases that are written out.
func TestRun(t *testing.T) {
	const begin = "series 0 1 2\nscheme 1 0 0 2 1 4\n"
	for i, v := range []struct {
		text, want string
		line       int
		e          api.Errno
	}{
		{"", "", 0, api.OK},
		{begin, "", 0, api.OK},
		{begin + "nearest 1 1 2\n", "> nearest 1 1 2\n1 0 1 0\n", 0, api.OK},
		{begin + "nearest 9 1 2\nseries 1 2 -\nnearest 9 1 2\n", "> nearest 9 1 2\n1 0 1 0\n2 0 0 2\n> nearest 9 1 2\n1 0 1 0\n2 1 0 0\n3 0 0 2\n", 0, api.OK},
		{begin + "within 2 1 1 2\nwithin 6 4 1 2\n", "> within 2 1 1 2\n1 0 1 0\n2 0 0 2\n> within 6 4 1 2\n1 0 1 0\n", 0, api.OK},
		{begin + "apart 5 2 0 0\n", "> apart 5 2 0 0\n1 0 0 1\n", 0, api.OK},
		{begin + "prove 1 1 2\n", "> prove 1 1 2\n1 0 1 0\nblocks 0\n", 0, api.OK},
		{"series 0 1 200 201\nscheme 1 0 0 2 1 1 100\nprove 1 0 1\n", "> prove 1 0 1\n1 0 0 0\nblocks 1\n", 0, api.OK},
		{begin + "motif 0 1\nmotif 0 2\n", "> motif 0 1\nmotif 0 1 2\n> motif 0 2\nmotif none\n", 0, api.OK},
		{"series 1 2 9 1 2\nscheme 2 0 0 2 1 4\nmotif 0 2\nscheme 3 0 0 3 1 4\nmotif 0 2\n", "> motif 0 2\nmotif 0 3 0\n> motif 0 2\nmotif 0 2 5/4\n", 0, api.OK},
		{"scheme 1 0 0 2 1 4\nnearest 3 1 2\nprove 3 1 2\n", "> nearest 3 1 2\n> prove 3 1 2\nblocks 0\n", 0, api.OK},
		{"series 1001\n", "", 1, api.ErrStore},
		{strings.Repeat("series 1\n", 17), "", 17, api.ErrStore},
		{"series 1" + strings.Repeat(" 1", 2000) + "\n", "", 1, api.ErrStore},
		{"nearest 1 1 2\n", "", 1, api.ErrWord},
		{"series 1 2\nmotif 9 0\n", "", 2, api.ErrWord},
		{"within 1 0 1\n", "", 1, api.ErrWord},
		{"scheme 6 0 0 2 1 0\n", "", 1, api.ErrWord},
		{"scheme 1 0 0 2 1 4 5 5\n", "", 1, api.ErrWord},
		{"scheme 1 0 0 2 1 0\n", "", 1, api.ErrCount},
		{"scheme 1 0 0 2 1 65\n", "", 1, api.ErrCount},
		{begin + "nearest 1 1 2\nnearest 0 1 2\nnearest 1 1 2\n", "> nearest 1 1 2\n1 0 1 0\n", 4, api.ErrCount},
		{begin + "nearest 0 1\n", "", 3, api.ErrLength},
		{begin + "nearest 1 1 1001\n", "", 3, api.ErrSample},
		{begin + "nearest 1 1 2 3\n", "", 3, api.ErrLength},
		{begin + "within 1 0 1\n", "", 3, api.ErrRange},
		{begin + "within -1 1 1\n", "", 3, api.ErrRange},
		{begin + "within 1 1 1\n", "", 3, api.ErrLength},
		{begin + "apart 0 0 1 2\n", "", 3, api.ErrCount},
		{begin + "apart 1 0 1 2\n", "", 3, api.ErrZone},
		{begin + "prove 0 1 2\n", "", 3, api.ErrCount},
		{begin + "motif 1 0\n", "", 3, api.ErrPlace},
		{begin + "motif -1 0\n", "", 3, api.ErrPlace},
		{begin + "motif 0 0\n", "", 3, api.ErrZone},
		{begin + "motif 0 1\nnearest\n", "", 4, api.ErrForm},
		{begin + "motif 0 1\nmotif 0 1", "", 4, api.ErrForm},
		{strings.Repeat("\n", api.MaxScript+1), "", 0, api.ErrLimit},
	} {
		if out, line, e := script.Run(v.text); out != v.want || line != v.line || e != v.e {
			t.Errorf("%d: Run is %q, %d, %d, want %q", i, out, line, e, v.want)
		}
	}
}

func words(l []int) string {
	s := ""
	for _, n := range l {
		if n == api.Missing {
			s += " -"
		} else {
			s += " " + strconv.Itoa(n)
		}
	}
	return s
}

// TestRandom tests P45.2 and P45.3 against the layers below.
func TestRandom(t *testing.T) {
	r := rand.New(rand.NewSource(83))
	for i := range 60 {
		s := trial.Scheme(r.Intn, 1+i%5)
		st := api.Store{Series: [][]int{trial.Samples(r.Intn, 1+r.Intn(60), 15, 20), trial.Samples(r.Intn, 1+r.Intn(30), 15, 20)}}
		x, _, _ := bulk.Load(s, 3, st, 16, 4)
		query, count, zone := trial.Query(r.Intn, st, s.Length), 1+r.Intn(5), 1+r.Intn(5)
		limit, _ := ratio.Make(r.Intn(30), 1+r.Intn(3))
		lines := []string{
			"nearest " + strconv.Itoa(count) + words(query),
			"within " + strconv.Itoa(limit.Num) + " " + strconv.Itoa(limit.Den) + words(query),
			"apart " + strconv.Itoa(count) + " " + strconv.Itoa(zone) + words(query),
			"prove " + strconv.Itoa(count) + words(query),
			"motif 0 " + strconv.Itoa(zone),
		}
		near, _ := store.Nearest(st, s.Measure, query, count)
		within, _ := store.Within(st, s.Measure, query, limit)
		chosen, _ := apart.Search(x, st, s.Measure, query, count, zone)
		proof, _ := certificate.Nearest(x, st, s.Measure, query, count)
		blocks := len(slices.DeleteFunc(proof, func(b api.Block) bool { return len(b.Places) == 0 }))
		p, _ := profile.Of(st.Series[0], s.Measure, s.Length, zone)
		pair := "motif none\n"
		if l, _ := motif.Pairs(p, 1); len(l) > 0 {
			pair = "motif " + strconv.Itoa(l[0].A) + " " + strconv.Itoa(l[0].B) + " " + ratio.Format(l[0].Distance) + "\n"
		}
		outputs := []string{script.Hits(near), script.Hits(within), script.Hits(chosen), script.Hits(near) + "blocks " + strconv.Itoa(blocks) + "\n", pair}
		text := "series" + words(st.Series[0]) + "\nseries" + words(st.Series[1]) + "\n"
		text += "scheme" + words([]int{s.Measure.Kind, s.Measure.Band, s.Measure.Gap, s.Length, s.Pieces, 3}) + words(s.Cuts) + "\n"
		want := ""
		for i, line := range lines {
			text += line + "\n"
			want += "> " + line + "\n" + outputs[i]
			if out, line, e := script.Run(text); out != want || line != 0 || e != api.OK {
				t.Fatalf("Run of %q is %q, %d, %d, want %q", text, out, line, e, want)
			}
		}
	}
}

// TestHits tests P45.3.
func TestHits(t *testing.T) {
	l := []api.Hit{{Distance: api.Ratio{Num: 3, Den: 2}, Place: api.Place{Series: 4, Start: 17}}, {Distance: api.Ratio{Num: 7, Den: 1}}}
	if s := script.Hits(l); s != "1 4 17 3/2\n2 0 0 7\n" {
		t.Errorf("Hits is %q", s)
	}
	if s := script.Hits(nil); s != "" {
		t.Errorf("Hits of nothing is %q", s)
	}
}
