package disk_test

import (
	"math"
	"math/rand"
	"slices"
	"strings"
	"testing"

	"copyhold/api"
	"copyhold/disk"
)

// sector is a sector of a text.
func sector(s string) string { return s + strings.Repeat("\x00", 64-len(s)) }

// same: are two disks the same?
func same(a, b api.Disk) bool {
	return a.Off == b.Off && slices.Equal(a.Kept, b.Kept) && slices.Equal(a.W, b.W)
}

// twin is a disk of memory of its own.
func twin(d api.Disk) api.Disk {
	return api.Disk{Kept: slices.Clone(d.Kept), W: slices.Clone(d.W), Off: d.Off}
}

func fresh(t *testing.T, many int) api.Disk {
	t.Helper()
	d, e := disk.New(many)
	if e != api.OK {
		t.Fatal(e)
	}
	return d
}

func write(t *testing.T, d api.Disk, at int, s string) api.Disk {
	t.Helper()
	d, e := disk.Write(d, at, s)
	if e != api.OK {
		t.Fatal(e)
	}
	return d
}

func TestNew(t *testing.T) { // P4.1
	for _, many := range []int{1, 2, 4095, 4096} {
		d := fresh(t, many)
		if len(d.Kept) != many || len(d.W) != 0 || d.Off || !disk.Right(d) {
			t.Error(many, len(d.Kept), len(d.W), d.Off)
		}
		for _, s := range d.Kept {
			if s != sector("") {
				t.Fatalf("%q", s)
			}
		}
	}
	for _, many := range []int{0, -1, 4097, math.MaxInt, math.MinInt} {
		if d, e := disk.New(many); e != api.ErrArg || !same(d, api.Disk{}) {
			t.Error(many, d, e)
		}
	}
}

func TestRight(t *testing.T) { // P4.1
	a, b := sector("a"), sector("b")
	long := slices.Repeat([]string{a}, 4096)
	for i, x := range []struct {
		d  api.Disk
		ok bool
	}{
		{api.Disk{Kept: []string{a}}, true},
		{api.Disk{Kept: []string{a}, Off: true}, true},
		{api.Disk{Kept: []string{a, b}, W: []api.Put{{At: 0, S: b}, {At: 1, S: a}, {At: 1, S: a}}}, true},
		{api.Disk{Kept: long}, true},
		{api.Disk{}, false},
		{api.Disk{Kept: append(long[:4096:4096], a)}, false},
		{api.Disk{Kept: []string{a, b[1:]}}, false},
		{api.Disk{Kept: []string{a, b + "x"}}, false},
		{api.Disk{Kept: []string{"", a}}, false},
		{api.Disk{Kept: []string{a}, W: []api.Put{{At: 1, S: b}}}, false},
		{api.Disk{Kept: []string{a}, W: []api.Put{{At: -1, S: b}}}, false},
		{api.Disk{Kept: []string{a}, W: []api.Put{{At: 0, S: b[1:]}}}, false},
		{api.Disk{Kept: []string{a}, W: []api.Put{{At: 0, S: b}, {At: 0, S: b + "x"}}}, false},
	} {
		if ok := disk.Right(x.d); ok != x.ok {
			t.Error(i, ok)
		}
	}
}

func TestReadAndImage(t *testing.T) { // P4.1
	d := api.Disk{Kept: []string{sector("a"), sector("b"), sector("c")}, W: []api.Put{{At: 1, S: sector("x")}, {At: 2, S: sector("y")}, {At: 1, S: sector("z")}}}
	image := []string{sector("a"), sector("z"), sector("y")}
	if !slices.Equal(disk.Image(d), image) {
		t.Errorf("%q", disk.Image(d))
	}
	for at, s := range image {
		if x, e := disk.Read(d, at); x != s || e != api.OK {
			t.Error(at, x, e)
		}
	}
	for _, at := range []int{-1, 3, math.MaxInt, math.MinInt} {
		if x, e := disk.Read(d, at); x != "" || e != api.ErrNone {
			t.Error(at, x, e)
		}
	}
	d.Off = true
	for _, at := range []int{0, 3, -1} {
		if x, e := disk.Read(d, at); x != "" || e != api.ErrDead {
			t.Error(at, x, e)
		}
	}
	if !slices.Equal(disk.Image(d), image) {
		t.Errorf("%q", disk.Image(d))
	}
}

func TestStretch(t *testing.T) { // P4.1
	d := api.Disk{Kept: []string{sector("a"), sector("b"), sector("c")}, W: []api.Put{{At: 1, S: sector("z")}}}
	a, z, c := sector("a"), sector("z"), sector("c")
	for _, x := range []struct {
		at, many int
		s        string
		e        api.Errno
	}{
		{0, 0, "", api.OK}, {3, 0, "", api.OK}, {0, 1, a, api.OK}, {0, 3, a + z + c, api.OK}, {1, 2, z + c, api.OK}, {2, 1, c, api.OK},
		{4, 0, "", api.ErrArg}, {0, 4, "", api.ErrArg}, {2, 2, "", api.ErrArg}, {3, 1, "", api.ErrArg}, {-1, 1, "", api.ErrArg}, {1, -1, "", api.ErrArg},
		{math.MaxInt, 1, "", api.ErrArg}, {1, math.MaxInt, "", api.ErrArg}, {math.MaxInt, math.MaxInt, "", api.ErrArg}, {math.MinInt, math.MinInt, "", api.ErrArg}, {math.MaxInt, math.MinInt, "", api.ErrArg},
	} {
		if s, e := disk.Stretch(d, x.at, x.many); s != x.s || e != x.e {
			t.Errorf("Stretch(%d, %d): %q %d", x.at, x.many, s, e)
		}
		off := twin(d)
		off.Off = true
		if s, e := disk.Stretch(off, x.at, x.many); s != "" || e != api.ErrDead {
			t.Errorf("Stretch(%d, %d) without power: %q %d", x.at, x.many, s, e)
		}
	}
}

func TestWrite(t *testing.T) { // P4.2
	d := fresh(t, 2)
	full := strings.Repeat("f", 64)
	one := write(t, d, 1, "hi")
	two := write(t, one, 0, full)
	if !same(two, api.Disk{Kept: d.Kept, W: []api.Put{{At: 1, S: sector("hi")}, {At: 0, S: full}}}) {
		t.Error(two)
	}
	if len(d.W) != 0 || len(one.W) != 1 {
		t.Error("what was handed in changed")
	}
	other := write(t, one, 1, "other")
	again := write(t, two, 1, "again")
	write(t, two, 0, "elsewhere")
	if two.W[1].S != full || other.W[1].S != sector("other") || again.W[2].S != sector("again") {
		t.Error("two that go on from one disturb each other")
	}
	for _, x := range []struct {
		at int
		s  string
		e  api.Errno
	}{{0, full + "x", api.ErrBig}, {2, "", api.ErrNone}, {-1, "", api.ErrNone}, {2, full + "x", api.ErrNone}, {math.MaxInt, "", api.ErrNone}} {
		if y, e := disk.Write(two, x.at, x.s); e != x.e || !same(y, two) {
			t.Error(x.at, e)
		}
		off := twin(two)
		off.Off = true
		if y, e := disk.Write(off, x.at, x.s); e != api.ErrDead || !same(y, off) {
			t.Error(x.at, e)
		}
	}
}

func TestFlush(t *testing.T) { // P4.2
	d := write(t, write(t, write(t, fresh(t, 2), 1, "a"), 1, "b"), 0, "c")
	f, e := disk.Flush(d)
	if e != api.OK || !same(f, api.Disk{Kept: []string{sector("c"), sector("b")}}) {
		t.Error(f, e)
	}
	if len(d.W) != 3 || d.Kept[0] != sector("") {
		t.Error("what was handed in changed")
	}
	d.Off = true
	if f, e := disk.Flush(d); e != api.ErrDead || !same(f, d) {
		t.Error(f, e)
	}
}

func TestCrash(t *testing.T) { // P4.2
	d := fresh(t, 1)
	if c := disk.Crash(write(t, d, 0, "hi"), nil); !same(c, d) {
		t.Error(c)
	}
	w := write(t, write(t, write(t, fresh(t, 2), 1, "a"), 0, "b"), 1, "c")
	w.Off = true
	for _, x := range []struct {
		keep []bool
		a, b string
	}{
		{nil, "", ""}, {[]bool{true}, "", "a"}, {[]bool{false, true}, "b", ""}, {[]bool{true, true, true}, "b", "c"}, {[]bool{true, true, false, true}, "b", "a"},
		{[]bool{false, false, true, true, true}, "", "c"}, {[]bool{true, false, true}, "", "c"},
	} {
		if c := disk.Crash(w, x.keep); !same(c, api.Disk{Kept: []string{sector(x.a), sector(x.b)}}) {
			t.Error(x.keep, c)
		}
	}
	if len(w.W) != 3 || w.Kept[0] != sector("") {
		t.Error("what was handed in changed")
	}
}

func TestWhatFollows(t *testing.T) { // P4.3
	r := rand.New(rand.NewSource(5))
	for range 300 {
		many := 1 + r.Intn(6)
		d := fresh(t, many)
		flushed := slices.Clone(d.Kept)
		written := make([][]string, many)
		for range r.Intn(20) {
			switch r.Intn(6) {
			case 0:
				f, e := disk.Flush(d)
				if e != api.OK || !slices.Equal(f.Kept, disk.Image(d)) || len(f.W) != 0 {
					t.Fatal(f, e)
				}
				d, flushed, written = f, f.Kept, make([][]string, many)
			default:
				at, s := r.Intn(many), sector(string(rune('a'+r.Intn(26))))
				d = write(t, d, at, s)
				written[at] = append(written[at], s)
				if x, e := disk.Read(d, at); x != s || e != api.OK {
					t.Fatal(x, e)
				}
			}
		}
		keep := make([]bool, r.Intn(25))
		for i := range keep {
			keep[i] = r.Intn(2) == 0
		}
		c := disk.Crash(d, keep)
		if !disk.Right(c) || c.Off || len(c.W) != 0 {
			t.Fatal(c)
		}
		for at, s := range c.Kept {
			if s != flushed[at] && !slices.Contains(written[at], s) {
				t.Fatalf("%d: %q was never there", at, s)
			}
			if len(written[at]) == 0 && s != flushed[at] {
				t.Fatalf("%d: %q is lost", at, flushed[at])
			}
		}
	}
}
