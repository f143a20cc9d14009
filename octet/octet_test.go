package octet_test

import (
	"math"
	"math/big"
	"math/rand"
	"slices"
	"strings"
	"testing"

	"copyhold/api"
	"copyhold/octet"
)

// numbers are such at which a figure more is needed, and some between them.
func numbers() []uint64 {
	l := []uint64{0, 1, 2, 63, 64, 100, 300, 16383, 16384, math.MaxInt64, math.MaxUint64, math.MaxUint64 - 1}
	for i := range 64 {
		n := uint64(1) << i
		l = append(l, n-1, n, n+1, n|n>>3)
	}
	return l
}

// figures are a number's bytes, reckoned by whole numbers of any size.
func figures(n uint64) string {
	x, base := new(big.Int).SetUint64(n), big.NewInt(128)
	var b []byte
	for {
		r := new(big.Int)
		x.DivMod(x, base, r)
		f := byte(r.Int64())
		if x.Sign() == 0 {
			return string(append(b, f))
		}
		b = append(b, f+128)
	}
}

func TestNumLays(t *testing.T) { // P1.1
	for n, s := range map[uint64]string{0: "\x00", 1: "\x01", 127: "\x7f", 128: "\x80\x01", 300: "\xac\x02", 16383: "\xff\x7f", 16384: "\x80\x80\x01", math.MaxUint64: "\xff\xff\xff\xff\xff\xff\xff\xff\xff\x01"} {
		if x := octet.Num(n); x != s {
			t.Errorf("Num(%d): %x, not %x", n, x, s)
		}
	}
	for _, n := range numbers() {
		if x := octet.Num(n); x != figures(n) {
			t.Errorf("Num(%d): %x, not %x", n, x, figures(n))
		}
	}
}

func TestTextAndListLay(t *testing.T) { // P1.1
	for s, x := range map[string]string{"": "\x00", "hi": "\x02hi", "\x00\xff": "\x02\x00\xff", strings.Repeat("a", 127): "\x7f" + strings.Repeat("a", 127), strings.Repeat("b", 300): "\xac\x02" + strings.Repeat("b", 300)} {
		if y := octet.Text(s); y != x {
			t.Errorf("Text(%q): %x", s, y)
		}
	}
	for _, x := range []struct {
		l []string
		s string
	}{
		{nil, "\x00"}, {[]string{}, "\x00"}, {[]string{""}, "\x01\x00"}, {[]string{"a", "", "bc"}, "\x03\x01a\x00\x02bc"},
		{slices.Repeat([]string{""}, 130), "\x82\x01" + strings.Repeat("\x00", 130)},
	} {
		if y := octet.List(x.l); y != x.s {
			t.Errorf("List(%q): %x", x.l, y)
		}
	}
}

func TestTakeNum(t *testing.T) { // P1.2
	nine := strings.Repeat("\xff", 9)
	high := strings.Repeat("\x80", 9)
	for _, x := range []struct {
		s    string
		n    uint64
		rest string
		e    api.Errno
	}{
		{"", 0, "", api.ErrMore},
		{"\x80", 0, "", api.ErrMore},
		{nine, 0, "", api.ErrMore},
		{high, 0, "", api.ErrMore},
		{"\x00", 0, "", api.OK},
		{"\x00\x00", 0, "\x00", api.OK},
		{"\x7f\x80", 127, "\x80", api.OK},
		{"\x80\x01rest", 128, "rest", api.OK},
		{"\x80\x00", 0, "", api.ErrForm},
		{"\xff\x00z", 0, "", api.ErrForm},
		{"\xff\xff\x00", 0, "", api.ErrForm},
		{high + "\x00", 0, "", api.ErrForm},
		{high + "\x01", 1 << 63, "", api.OK},
		{nine + "\x01!", math.MaxUint64, "!", api.OK},
		{high + "\x02", 0, "", api.ErrForm},
		{nine + "\x02", 0, "", api.ErrForm},
		{nine + "\x7f", 0, "", api.ErrForm},
		{nine + "\xff", 0, "", api.ErrForm},
		{high + "\x80", 0, "", api.ErrForm},
		{high + "\x80\x01", 0, "", api.ErrForm},
		{nine + "\x81", 0, "", api.ErrForm},
		{nine + "\xff\x00", 0, "", api.ErrForm},
	} {
		if n, rest, e := octet.TakeNum(x.s); n != x.n || rest != x.rest || e != x.e {
			t.Errorf("TakeNum(%x): %d %q %d, not %d %q %d", x.s, n, rest, e, x.n, x.rest, x.e)
		}
	}
}

func TestTakeText(t *testing.T) { // P1.2
	for _, x := range []struct {
		s       string
		most    int
		t, rest string
		e       api.Errno
	}{
		{"\x00", 0, "", "", api.OK},
		{"\x00", -1, "", "", api.ErrBig},
		{"\x00", math.MinInt, "", "", api.ErrBig},
		{"\x02hi!", 2, "hi", "!", api.OK},
		{"\x02hi!", math.MaxInt, "hi", "!", api.OK},
		{"\x02hi!", 1, "", "", api.ErrBig},
		{"\x02h", 1, "", "", api.ErrBig},
		{"\x02h", 2, "", "", api.ErrMore},
		{"\x03hi", math.MaxInt, "", "", api.ErrMore},
		{"", -1, "", "", api.ErrMore},
		{"\x80\x00", -1, "", "", api.ErrForm},
		{octet.Num(math.MaxUint64), math.MaxInt, "", "", api.ErrBig},
		{octet.Num(math.MaxInt64) + "x", math.MaxInt, "", "", api.ErrMore},
		{octet.Num(1<<63) + "x", math.MaxInt, "", "", api.ErrBig},
	} {
		if s, rest, e := octet.TakeText(x.s, x.most); s != x.t || rest != x.rest || e != x.e {
			t.Errorf("TakeText(%x, %d): %q %q %d", x.s, x.most, s, rest, e)
		}
	}
}

func TestTakeList(t *testing.T) { // P1.2
	for _, x := range []struct {
		s          string
		most, long int
		l          []string
		rest       string
		e          api.Errno
	}{
		{"\x00", 0, -1, nil, "", api.OK},
		{"\x00z", 5, 0, nil, "z", api.OK},
		{"\x00", -1, 0, nil, "", api.ErrBig},
		{"", -1, -1, nil, "", api.ErrMore},
		{"\x80\x00", -1, -1, nil, "", api.ErrForm},
		{"\x03\x01a\x00\x02bc!", 3, 2, []string{"a", "", "bc"}, "!", api.OK},
		{"\x03\x01a\x00\x02bc!", 2, 2, nil, "", api.ErrBig},
		{"\x03\x01a\x00\x02bc!", 3, 1, nil, "", api.ErrBig},
		{"\x03\x01a\x00\x02b", 3, 2, nil, "", api.ErrMore},
		{"\x03\x01a\x00", 3, 2, nil, "", api.ErrMore},
		{"\x02\x80\x00\x09", 2, 2, nil, "", api.ErrForm},
		{"\x02\x09\x80\x00", 2, 2, nil, "", api.ErrBig},
		{"\x01\x00", 1, -1, nil, "", api.ErrBig},
		{octet.Num(math.MaxInt64) + "\x00\x00", math.MaxInt, 9, nil, "", api.ErrMore},
		{octet.Num(1 << 63), math.MaxInt, 9, nil, "", api.ErrBig},
	} {
		if l, rest, e := octet.TakeList(x.s, x.most, x.long); !slices.Equal(l, x.l) || rest != x.rest || e != x.e {
			t.Errorf("TakeList(%x, %d, %d): %q %q %d", x.s, x.most, x.long, l, rest, e)
		}
	}
}

func TestFold(t *testing.T) { // P1.3
	two := big.NewInt(2)
	l := []int{0, 1, -1, 2, -2, 1000, -1000, math.MaxInt, math.MinInt, math.MaxInt - 1, math.MinInt + 1}
	for i := range 63 {
		l = append(l, 1<<i, -1<<i, 1<<i-1, -1<<i+1)
	}
	for _, n := range l {
		want := new(big.Int).Mul(big.NewInt(int64(n)), two)
		if n < 0 {
			want.Neg(want).Sub(want, big.NewInt(1))
		}
		if x := octet.Fold(n); x != want.Uint64() {
			t.Errorf("Fold(%d): %d, not %v", n, x, want)
		}
		if x := octet.Unfold(want.Uint64()); x != n {
			t.Errorf("Unfold(%v): %d, not %d", want, x, n)
		}
	}
	for _, n := range numbers() {
		if octet.Fold(octet.Unfold(n)) != n {
			t.Errorf("Unfold(%d): %d", n, octet.Unfold(n))
		}
	}
}

func TestLaidIsTaken(t *testing.T) { // P1.4
	tails := []string{"", "\x00", "z", "\x80", "\xff\xff\xff\xff\xff\xff\xff\xff\xff\xff\xff"}
	for _, n := range numbers() {
		s := octet.Num(n)
		for _, z := range tails {
			if m, rest, e := octet.TakeNum(s + z); m != n || rest != z || e != api.OK {
				t.Errorf("%d and %x: %d %x %d", n, z, m, rest, e)
			}
		}
		for i := range len(s) {
			if m, rest, e := octet.TakeNum(s[:i]); m != 0 || rest != "" || e != api.ErrMore {
				t.Errorf("%x: %d %x %d", s[:i], m, rest, e)
			}
		}
	}
	r := rand.New(rand.NewSource(1))
	for range 300 {
		var l []string
		for range r.Intn(6) {
			l = append(l, strings.Repeat(string(rune('a'+r.Intn(26))), r.Intn(200)))
		}
		s := octet.List(l)
		for _, z := range tails {
			if m, rest, e := octet.TakeList(s+z, 5, 199); !slices.Equal(m, l) || rest != z || e != api.OK {
				t.Fatalf("%q and %x: %q %x %d", l, z, m, rest, e)
			}
		}
		i := r.Intn(len(s))
		if m, rest, e := octet.TakeList(s[:i], 5, 199); len(m) != 0 || rest != "" || e != api.ErrMore {
			t.Fatalf("%x: %q %x %d", s[:i], m, rest, e)
		}
		x := strings.Join(l, "")
		if y, rest, e := octet.TakeText(octet.Text(x)+"tail", len(x)); y != x || rest != "tail" || e != api.OK {
			t.Fatalf("%q: %q %q %d", x, y, rest, e)
		}
		if i := r.Intn(len(octet.Text(x))); i > 0 || x != "" {
			if y, rest, e := octet.TakeText(octet.Text(x)[:i], len(x)); y != "" || rest != "" || e != api.ErrMore {
				t.Fatalf("%q up to %d: %q %q %d", x, i, y, rest, e)
			}
		}
	}
}
