package data_test

import (
	"math"
	"math/rand"
	"slices"
	"strings"
	"testing"

	"copyhold/api"
	"copyhold/data"
	"copyhold/span"
)

const limit = 1 << 40

func long(many int) string { return strings.Repeat("x", many) }

func TestRead(t *testing.T) { // P9.1
	for _, x := range []struct {
		at, many int
		t        string
		e        api.Errno
	}{
		{0, 0, "", api.OK}, {0, 6, "abcdef", api.OK}, {0, 99, "abcdef", api.OK}, {2, 3, "cde", api.OK}, {4, 9, "ef", api.OK}, {5, 1, "f", api.OK},
		{6, 1, "", api.OK}, {7, 1, "", api.OK}, {9999, 5, "", api.OK}, {limit, 0, "", api.OK}, {0, limit, "abcdef", api.OK}, {1, limit - 1, "bcdef", api.OK},
		{-1, 1, "", api.ErrArg}, {1, -1, "", api.ErrArg}, {1, limit, "", api.ErrArg}, {limit, 1, "", api.ErrArg}, {limit + 1, 0, "", api.ErrArg},
		{math.MaxInt, 1, "", api.ErrArg}, {1, math.MaxInt, "", api.ErrArg}, {math.MinInt, math.MaxInt, "", api.ErrArg}, {math.MaxInt, math.MinInt, "", api.ErrArg},
	} {
		if s, e := data.Read("abcdef", x.at, x.many); s != x.t || e != x.e {
			t.Errorf("Read(%d, %d): %q %d", x.at, x.many, s, e)
		}
	}
}

func TestWrite(t *testing.T) { // P9.1
	for _, x := range []struct {
		s  string
		at int
		t  string
		to string
		e  api.Errno
	}{
		{"abc", 5, "x", "abc\x00\x00x", api.OK}, {"abc", 3, "x", "abcx", api.OK}, {"abc", 1, "XYZ", "aXYZ", api.OK}, {"abcd", 1, "XY", "aXYd", api.OK},
		{"", 0, "hi", "hi", api.OK}, {"", 2, "hi", "\x00\x00hi", api.OK}, {"abc", 0, "", "abc", api.OK}, {"abc", 9, "", "abc", api.OK}, {"abc", 4096, "", "abc", api.OK},
		{"abc", 4095, "x", "abc" + strings.Repeat("\x00", 4092) + "x", api.OK}, {"abc", 0, long(4096), long(4096), api.OK},
		{"abc", 4096, "x", "abc", api.ErrBig}, {"abc", 0, long(4097), "abc", api.ErrBig}, {"abc", 1, long(4096), "abc", api.ErrBig}, {"abc", 4097, "", "abc", api.ErrBig},
		{"abc", limit, "", "abc", api.ErrBig}, {"abc", limit - 1, "x", "abc", api.ErrBig}, {"abc", limit, "x", "abc", api.ErrArg}, {"abc", limit + 1, "", "abc", api.ErrArg},
		{"abc", -1, "x", "abc", api.ErrArg}, {"abc", -1, "", "abc", api.ErrArg}, {"abc", math.MaxInt, "x", "abc", api.ErrArg}, {"abc", math.MinInt, "x", "abc", api.ErrArg},
		{long(5000), 10, "yy", long(10) + "yy" + long(4988), api.OK},
	} {
		if s, e := data.Write(x.s, x.at, x.t); s != x.to || e != x.e {
			t.Errorf("Write(%.9q, %d, %.9q): %.9q %d", x.s, x.at, x.t, s, e)
		}
	}
}

func TestCut(t *testing.T) { // P9.1
	for _, x := range []struct {
		s    string
		many int
		to   string
		e    api.Errno
	}{
		{"abc", 0, "", api.OK}, {"abc", 2, "ab", api.OK}, {"abc", 3, "abc", api.OK}, {"abc", 5, "abc\x00\x00", api.OK}, {"", 0, "", api.OK}, {"", 2, "\x00\x00", api.OK},
		{"abc", 4096, "abc" + strings.Repeat("\x00", 4093), api.OK}, {long(5000), 4096, long(4096), api.OK},
		{"abc", 4097, "abc", api.ErrBig}, {"abc", limit, "abc", api.ErrBig},
		{"abc", limit + 1, "abc", api.ErrArg}, {"abc", -1, "abc", api.ErrArg}, {"abc", math.MaxInt, "abc", api.ErrArg}, {"abc", math.MinInt, "abc", api.ErrArg},
	} {
		if s, e := data.Cut(x.s, x.many); s != x.to || e != x.e {
			t.Errorf("Cut(%.9q, %d): %.9q %d", x.s, x.many, s, e)
		}
	}
}

func TestUnlike(t *testing.T) { // P9.2
	for _, x := range []struct {
		a, b string
		l    []api.Span
	}{
		{"", "", nil}, {"abc", "abc", nil}, {"abcd", "aXXd", []api.Span{1 + 2i}}, {"abcd", "XbcX", []api.Span{1i, 3 + 1i}}, {"abcd", "XbXd", []api.Span{1i, 2 + 1i}},
		{"abc", "", []api.Span{3i}}, {"", "abc", []api.Span{3i}}, {"abc", "abcde", []api.Span{3 + 2i}}, {"abcde", "abc", []api.Span{3 + 2i}}, {"abX", "abcde", []api.Span{2 + 3i}},
		{"a\x00", "a", []api.Span{1 + 1i}}, {"Xbc", "abcd", []api.Span{1i, 3 + 1i}},
	} {
		if l := data.Unlike(x.a, x.b); !slices.Equal(l, x.l) {
			t.Errorf("Unlike(%q, %q): %v", x.a, x.b, l)
		}
	}
}

func TestPieces(t *testing.T) { // P9.2
	l := []api.Span{1 + 2i, 0, 4 + 9i, 9 + 1i, 6i, 1 + 2i}
	if x := data.Pieces("abcdef", l); !slices.Equal(x, []string{"bc", "", "ef", "", "abcdef", "bc"}) {
		t.Errorf("%q", x)
	}
	if x := data.Pieces("abc", nil); len(x) != 0 {
		t.Errorf("%q", x)
	}
}

func TestPatch(t *testing.T) { // P9.2
	for i, x := range []struct {
		l      []api.Span
		pieces []string
		to     string
		e      api.Errno
	}{
		{nil, nil, "abcdef", api.OK},
		{[]api.Span{1 + 2i, 4 + 1i}, []string{"XY", "Z"}, "aXYdZf", api.OK},
		{[]api.Span{1 + 2i, 1 + 2i}, []string{"XY", "Z"}, "aZYdef", api.OK},
		{[]api.Span{1}, []string{"long one"}, "along one", api.OK},
		{[]api.Span{8 + 1i}, []string{"x"}, "abcdef\x00\x00x", api.OK},
		{[]api.Span{3 + 2i}, []string{""}, "abcdef", api.OK},
		{[]api.Span{1i}, nil, "abcdef", api.ErrArg},
		{nil, []string{""}, "abcdef", api.ErrArg},
		{[]api.Span{1i, 4096 + 1i}, []string{"x"}, "abcdef", api.ErrArg},
		{[]api.Span{1i, 4096 + 1i, 2 + 1i}, []string{"x", "x", "x"}, "abcdef", api.ErrBig},
		{[]api.Span{1i, limit, 4096}, []string{"x", "x", "x"}, "abcdef", api.ErrArg},
		{[]api.Span{4096, limit}, []string{"x", "x"}, "abcdef", api.ErrBig},
	} {
		if s, e := data.Patch("abcdef", x.l, x.pieces); s != x.to || e != x.e {
			t.Errorf("%d: %q %d", i, s, e)
		}
	}
}

func TestWhatFollows(t *testing.T) { // P9.3
	r := rand.New(rand.NewSource(10))
	some := func(many int) string {
		b := make([]byte, many)
		for i := range b {
			b[i] = "ab"[r.Intn(2)]
		}
		return string(b)
	}
	for range 2000 {
		s, at, x := some(r.Intn(20)), r.Intn(25), some(r.Intn(10))
		w, e := data.Write(s, at, x)
		if e != api.OK {
			t.Fatal(e)
		}
		if y, e := data.Read(w, at, len(x)); y != x || e != api.OK {
			t.Fatalf("%q, not %q", y, x)
		}
		for i := range w {
			was := byte(0)
			if i < len(s) {
				was = s[i]
			}
			if (i < at || i >= at+len(x)) && w[i] != was {
				t.Fatalf("Write(%q, %d, %q): %q", s, at, x, w)
			}
		}
		if want := max(len(s), at+len(x)); x != "" && len(w) != want || x == "" && w != s {
			t.Fatalf("Write(%q, %d, %q): %q", s, at, x, w)
		}
		many := r.Intn(30)
		a, b := some(many), some(many)
		l := data.Unlike(a, b)
		if !slices.Equal(l, span.Clean(l)) {
			t.Fatalf("%v isn't clean", l)
		}
		for i := range many {
			if span.Has(l, i) != (a[i] != b[i]) {
				t.Fatalf("Unlike(%q, %q): %v", a, b, l)
			}
		}
		if c, e := data.Patch(b, l, data.Pieces(a, l)); c != a || e != api.OK {
			t.Fatalf("%q, not %q", c, a)
		}
	}
}
