package span_test

import (
	"math"
	"math/rand"
	"slices"
	"testing"

	"copyhold/api"
	"copyhold/span"
)

const limit = 1 << 40

func TestOf(t *testing.T) { // P3.1
	for _, x := range []struct {
		from, many int
		s          api.Span
		e          api.Errno
	}{
		{0, 0, 0, api.OK},
		{3, 4, 3 + 4i, api.OK},
		{limit, 0, limit, api.OK},
		{0, limit, complex(0, limit), api.OK},
		{limit - 1, 1, complex(limit-1, 1), api.OK},
		{limit, 1, 0, api.ErrArg},
		{1, limit, 0, api.ErrArg},
		{limit + 1, 0, 0, api.ErrArg},
		{0, limit + 1, 0, api.ErrArg},
		{-1, 0, 0, api.ErrArg},
		{0, -1, 0, api.ErrArg},
		{-1, 1, 0, api.ErrArg},
		{1, -1, 0, api.ErrArg},
		{math.MaxInt, math.MaxInt, 0, api.ErrArg},
		{math.MaxInt, 1, 0, api.ErrArg},
		{1, math.MaxInt, 0, api.ErrArg},
		{math.MinInt, math.MinInt, 0, api.ErrArg},
		{math.MinInt, math.MaxInt, 0, api.ErrArg},
	} {
		s, e := span.Of(x.from, x.many)
		if s != x.s || e != x.e {
			t.Errorf("Of(%d, %d): %v %d", x.from, x.many, s, e)
		}
		if f, m := span.Parts(s); e == api.OK && (f != x.from || m != x.many || !span.Right(s)) {
			t.Errorf("Parts(%v): %d %d", s, f, m)
		}
	}
}

func TestRight(t *testing.T) { // P3.1
	nought, inf, nan := math.Copysign(0, -1), math.Inf(1), math.NaN()
	for _, x := range []struct {
		re, im float64
		ok     bool
	}{
		{0, 0, true}, {3, 4, true}, {limit, 0, true}, {0, limit, true}, {limit / 2, limit / 2, true},
		{limit, 1, false}, {1, limit, false}, {limit + 1, 0, false}, {limit / 2, limit/2 + 1, false},
		{nought, 0, false}, {0, nought, false}, {nought, 3, false}, {3, nought, false},
		{0.5, 0, false}, {0, 0.5, false}, {0.5, 0.5, false}, {limit - 0.5, 0, false},
		{-1, 2, false}, {2, -1, false}, {-1, -1, false},
		{nan, 0, false}, {0, nan, false}, {inf, 0, false}, {0, inf, false}, {inf, -inf, false}, {-inf, 0, false}, {0, -inf, false},
		{1e300, 0, false}, {0, 1e300, false}, {math.SmallestNonzeroFloat64, 0, false},
	} {
		if ok := span.Right(complex(x.re, x.im)); ok != x.ok {
			t.Errorf("Right(%v + %vi): %v", x.re, x.im, ok)
		}
	}
}

func TestBothAndAround(t *testing.T) { // P3.2
	for _, x := range []struct {
		a, b, both api.Span
		ok         bool
		around     api.Span
	}{
		{3 + 4i, 5 + 9i, 5 + 2i, true, 3 + 11i},
		{3 + 4i, 7 + 2i, 0, false, 3 + 6i},
		{3 + 4i, 20 + 1i, 0, false, 3 + 18i},
		{3 + 4i, 3 + 4i, 3 + 4i, true, 3 + 4i},
		{3 + 4i, 4 + 1i, 4 + 1i, true, 3 + 4i},
		{3 + 0i, 1 + 9i, 0, false, 1 + 9i},
		{1 + 9i, 3 + 0i, 0, false, 1 + 9i},
		{5 + 0i, 7 + 0i, 0, false, 5},
		{7 + 0i, 5 + 0i, 0, false, 7},
		{5 + 0i, 5 + 0i, 0, false, 5},
		{100 + 0i, 2 + 1i, 0, false, 2 + 1i},
		{complex(0, limit), complex(limit-1, 1), complex(limit-1, 1), true, complex(0, limit)},
		{1i, complex(limit-1, 1), 0, false, complex(0, limit)},
	} {
		if s, ok := span.Both(x.a, x.b); s != x.both || ok != x.ok {
			t.Errorf("Both(%v, %v): %v %v", x.a, x.b, s, ok)
		}
		if s, ok := span.Both(x.b, x.a); s != x.both || ok != x.ok {
			t.Errorf("Both(%v, %v): %v %v", x.b, x.a, s, ok)
		}
		if s := span.Around(x.a, x.b); s != x.around {
			t.Errorf("Around(%v, %v): %v", x.a, x.b, s)
		}
	}
}

func TestShift(t *testing.T) { // P3.2
	for _, x := range []struct {
		s  api.Span
		by int
		to api.Span
		e  api.Errno
	}{
		{3 + 4i, 0, 3 + 4i, api.OK},
		{3 + 4i, 5, 8 + 4i, api.OK},
		{3 + 4i, -3, 4i, api.OK},
		{3 + 4i, -4, 0, api.ErrArg},
		{0, -1, 0, api.ErrArg},
		{0, limit, limit, api.OK},
		{limit, -limit, 0, api.OK},
		{limit, 1, 0, api.ErrArg},
		{1i, limit - 1, complex(limit-1, 1), api.OK},
		{1i, limit, 0, api.ErrArg},
		{3 + 4i, math.MaxInt, 0, api.ErrArg},
		{limit, math.MaxInt, 0, api.ErrArg},
		{3 + 4i, math.MinInt, 0, api.ErrArg},
		{limit, math.MinInt, 0, api.ErrArg},
		{limit, -limit - 1, 0, api.ErrArg},
		{0, limit + 1, 0, api.ErrArg},
	} {
		if s, e := span.Shift(x.s, x.by); s != x.to || e != x.e {
			t.Errorf("Shift(%v, %d): %v %d", x.s, x.by, s, e)
		}
	}
}

func TestClean(t *testing.T) { // P3.3
	for _, x := range []struct {
		l, to []api.Span
		size  int
	}{
		{nil, nil, 0},
		{[]api.Span{5, 0, 7}, nil, 0},
		{[]api.Span{3 + 4i}, []api.Span{3 + 4i}, 4},
		{[]api.Span{7 + 2i, 3 + 4i}, []api.Span{3 + 6i}, 6},
		{[]api.Span{8 + 2i, 3 + 4i}, []api.Span{3 + 4i, 8 + 2i}, 6},
		{[]api.Span{1 + 20i, 3 + 4i, 9 + 1i}, []api.Span{1 + 20i}, 20},
		{[]api.Span{1 + 2i, 1 + 5i, 1}, []api.Span{1 + 5i}, 5},
		{[]api.Span{2 + 2i, 4, 5 + 2i}, []api.Span{2 + 2i, 5 + 2i}, 4},
		{[]api.Span{1 + 2i, 1 + 2i, 5 + 1i, 3 + 2i}, []api.Span{1 + 5i}, 5},
		{[]api.Span{complex(limit-1, 1), 1i}, []api.Span{1i, complex(limit-1, 1)}, 2},
		{[]api.Span{complex(0, limit), 9 + 9i}, []api.Span{complex(0, limit)}, limit},
	} {
		ahead := slices.Clone(x.l)
		if l := span.Clean(x.l); !slices.Equal(l, x.to) {
			t.Errorf("Clean(%v): %v", x.l, l)
		}
		if n := span.Size(x.l); n != x.size {
			t.Errorf("Size(%v): %d", x.l, n)
		}
		if !slices.Equal(ahead, x.l) {
			t.Errorf("%v was changed to %v", ahead, x.l)
		}
	}
}

func TestHas(t *testing.T) { // P3.3
	l := []api.Span{8 + 2i, 3, 3 + 4i, 8 + 1i, complex(limit-1, 1)}
	for at, has := range map[int]bool{0: false, 2: false, 3: true, 6: true, 7: false, 8: true, 9: true, 10: false, limit - 2: false, limit - 1: true, limit: false, -1: false, math.MaxInt: false, math.MinInt: false} {
		if span.Has(l, at) != has {
			t.Errorf("Has(%d): %v", at, !has)
		}
	}
	if span.Has(nil, 0) || span.Has([]api.Span{0, 5}, 0) || span.Has([]api.Span{5}, 5) {
		t.Error("a place of nothing")
	}
}

func TestPlaces(t *testing.T) { // P3.2, P3.3, P3.4
	r := rand.New(rand.NewSource(4))
	some := func() api.Span { s, _ := span.Of(r.Intn(30), r.Intn(6)); return s }
	for range 2000 {
		var l []api.Span
		for range r.Intn(7) {
			l = append(l, some())
		}
		c := span.Clean(l)
		many := 0
		for at := range 40 {
			in := slices.ContainsFunc(l, func(s api.Span) bool { f, m := span.Parts(s); return f <= at && at < f+m })
			if in {
				many++
			}
			if span.Has(l, at) != in || span.Has(c, at) != in {
				t.Fatalf("%v, %d: not %v", l, at, in)
			}
		}
		if span.Size(l) != many || span.Size(c) != many {
			t.Fatalf("%v: %d places, not %d", l, span.Size(l), many)
		}
		for i, s := range c {
			f, m := span.Parts(s)
			if !span.Right(s) || m == 0 || i > 0 && float64(f) <= real(c[i-1])+imag(c[i-1]) {
				t.Fatalf("%v: %v isn't clean", l, c)
			}
		}
		if !slices.Equal(span.Clean(c), c) {
			t.Fatalf("%v doesn't stay", c)
		}
		r.Shuffle(len(l), func(i, j int) { l[i], l[j] = l[j], l[i] })
		if !slices.Equal(span.Clean(l), c) {
			t.Fatalf("%v: the order counts", l)
		}
		a, b := some(), some()
		s, ok := span.Both(a, b)
		w := span.Around(a, b)
		for at := range 40 {
			ina, inb := span.Has([]api.Span{a}, at), span.Has([]api.Span{b}, at)
			if (ina && inb) != (ok && span.Has([]api.Span{s}, at)) {
				t.Fatalf("Both(%v, %v): %v %v", a, b, s, ok)
			}
			if (ina || inb) && !span.Has([]api.Span{w}, at) {
				t.Fatalf("Around(%v, %v): %v", a, b, w)
			}
		}
	}
}
