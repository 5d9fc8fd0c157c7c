package reading_test

import (
	"math/rand"
	"slices"
	"strconv"
	"strings"
	"testing"

	"shapesearch/api"
	"shapesearch/reading"
)

var (
	celsius = api.Unit{Name: "c", Mul: 10, Div: 1}
	raw     = api.Unit{Name: "raw", Mul: 1, Div: 1}
	both    = []api.Unit{celsius, raw}
)

// TestParse tests what P5.1 says of texts that are read.
func TestParse(t *testing.T) {
	for text, want := range map[string][]api.Reading{
		"":                           nil,
		"\n\n#\n# 1 2 3 4\n":         nil,
		"# x\n5 36.6 c\n7 -3 raw":    {{Time: 5, Value: 366}, {Time: 7, Value: -3}},
		"0 0 raw\n":                  {{}},
		"9 1 raw\n3 0.25 c\n\n9 2 c": {{Time: 9, Value: 1}, {Time: 3, Value: 3}, {Time: 9, Value: 20}},
		"1099511627776 -100.0 c":     {{Time: api.MaxTime, Value: -1000}},
	} {
		if l, line, e := reading.Parse(text, both); !slices.Equal(l, want) || line != 0 || e != api.OK {
			t.Errorf("Parse(%q) is %v, %d, %d", text, l, line, e)
		}
	}
}

// TestParseLines tests what P5.1 says of lines that are wrong.
func TestParseLines(t *testing.T) {
	for line, want := range map[string]api.Errno{
		"5 1 c ": api.ErrForm, "5 1": api.ErrForm, "5 1 ": api.ErrForm, "5  1 c": api.ErrForm, " 5 1 c": api.ErrForm, "5 1 c c": api.ErrForm, " ": api.ErrForm, "5\t1\tc": api.ErrForm,
		"05 1 c": api.ErrForm, "00 1 c": api.ErrForm, "-5 1 c": api.ErrForm, "+5 1 c": api.ErrForm, "x 1 c": api.ErrForm, "12345678901234 1 c": api.ErrForm, " # 1": api.ErrForm,
		"5 01 c": api.ErrForm, "5 x c": api.ErrForm, "5 -0 k": api.ErrForm, "9999999999999 -0 c": api.ErrForm,
		"1099511627777 1 c": api.ErrRange, "9999999999999 1 k": api.ErrRange, "5 1000000001 k": api.ErrRange, "5 1000000001 c": api.ErrRange,
		"5 1 k": api.ErrUnit, "5 1 C": api.ErrUnit, "5 1 c\r": api.ErrUnit, "5 1 \xff": api.ErrUnit, "5 5000 k": api.ErrUnit,
		"5 200 c": api.ErrSample, "5 -1000.51 raw": api.ErrSample,
	} {
		text := "# one\n1 1 raw\n\n" + line + "\nworse than that\n"
		if l, number, e := reading.Parse(text, both); len(l) > 0 || number != 4 || e != want {
			t.Errorf("Parse(%q) is %v, %d, %d, want the error %d", text, l, number, e, want)
		}
	}
}

// TestParseLimits tests the errors of P5.1 that come ahead of all lines, and the limit of readings.
func TestParseLimits(t *testing.T) {
	many := slices.Repeat([]api.Unit{raw}, api.MaxUnits+1)
	var different []api.Unit
	for i := range api.MaxUnits {
		different = append(different, api.Unit{Name: string(rune('a' + i)), Mul: 1, Div: 1})
	}
	wrong := []api.Unit{raw, raw, {Name: "x"}}
	long := strings.Repeat("\n", api.MaxText)
	for i, x := range []struct {
		text  string
		units []api.Unit
		line  int
		e     api.Errno
	}{
		{long, both, 0, api.OK},
		{"#", different, 0, api.OK},
		{long + "\n", wrong, 0, api.ErrLimit},
		{"x", many, 0, api.ErrLimit},
		{"x", wrong, 0, api.ErrUnit},
		{"x", []api.Unit{raw, celsius, raw}, 0, api.ErrTwice},
		{"x", nil, 1, api.ErrForm},
		{"1 1 raw", nil, 1, api.ErrUnit},
	} {
		if l, line, e := reading.Parse(x.text, x.units); len(l) > 0 || line != x.line || e != x.e {
			t.Errorf("%d: Parse is %v, %d, %d", i, l, line, e)
		}
	}
	short := []api.Unit{{Name: "a", Mul: 1, Div: 1}}
	full := strings.Repeat("1 1 a\n", api.MaxReadings)
	if l, line, e := reading.Parse(full+"#\n", short); len(l) != api.MaxReadings || line != 0 || e != api.OK {
		t.Errorf("%d readings, %d, %d", len(l), line, e)
	}
	for last, want := range map[string]api.Errno{"1 1 a": api.ErrLimit, "1 1": api.ErrForm, "1 1 b": api.ErrUnit, "1 1001 a": api.ErrSample} {
		if l, line, e := reading.Parse(full+last, short); len(l) > 0 || line != api.MaxReadings+1 || e != want {
			t.Errorf("behind all readings, %q: %d readings, %d, %d", last, len(l), line, e)
		}
	}
}

// TestFormat tests P5.2.
func TestFormat(t *testing.T) {
	r := rand.New(rand.NewSource(7))
	for range 200 {
		l := make([]api.Reading, r.Intn(40))
		for i := range l {
			l[i] = api.Reading{Time: r.Intn(api.MaxTime + 1), Value: r.Intn(2001) - 1000}
		}
		text, e := reading.Format(l)
		if m, _, errno := reading.Parse(text, both); !slices.Equal(l, m) || e != api.OK || errno != api.OK {
			t.Fatalf("%v is %q, which is read as %v", l, text, m)
		}
	}
	if s, e := reading.Format([]api.Reading{{Time: 5, Value: 366}, {Time: 7, Value: -3}}); s != "5 366 raw\n7 -3 raw\n" || e != api.OK {
		t.Errorf("Format is %q, %d", s, e)
	}
	line := len("1000000000000 -1000 raw\n")
	long := slices.Repeat([]api.Reading{{Time: 1000000000000, Value: -1000}}, api.MaxReadings)
	for i, x := range []struct {
		l []api.Reading
		n int
		e api.Errno
	}{
		{long[:api.MaxText/line], api.MaxText / line * line, api.OK},
		{long[:api.MaxText/line+1], 0, api.ErrLimit},
		{append(long[:682:682], api.Reading{Time: 100000, Value: 1000}), api.MaxText, api.OK},
		{append(long[:682:682], api.Reading{Time: 100000, Value: -1000}), 0, api.ErrLimit},
		{append(long[:1999:1999], api.Reading{Time: -1}), 0, api.ErrRange},
		{append(long[:2000:2000], api.Reading{Time: -1}), 0, api.ErrLimit},
		{[]api.Reading{{Time: api.MaxTime + 1}}, 0, api.ErrRange},
		{[]api.Reading{{Value: 1001}}, 0, api.ErrRange},
	} {
		if s, e := reading.Format(x.l); len(s) != x.n || e != x.e {
			t.Errorf("%d: Format has %d bytes, %d, want %s", i, len(s), e, strconv.Itoa(x.n))
		}
	}
}
