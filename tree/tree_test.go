package tree_test

import (
	"fmt"
	"math"
	"math/rand"
	"slices"
	"testing"

	"copyhold/api"
	"copyhold/node"
	"copyhold/octet"
	"copyhold/tree"
)

// dir is a directory with so many names, and entries by pairs of a name and a number.
func dir(ino, links int, l ...any) api.Node {
	n := api.Node{Ino: ino, Kind: api.Dir, Links: links}
	for i := 0; i < len(l); i += 2 {
		n.L = append(n.L, api.Entry{Name: l[i].(string), Ino: l[i+1].(int)})
	}
	return n
}

func file(ino, links int) api.Node {
	return api.Node{Ino: ino, Kind: api.File, Links: links, Text: fmt.Sprint("text of ", ino)}
}

func fs(next int, l ...api.Node) api.FS { return api.FS{L: l, Next: next} }

// some is a right one: /a (2), /a/b (3), /a/f and /g (4), /a/b/l (7).
func some() api.FS {
	return fs(9, dir(1, 0, "a", 2, "g", 4), dir(2, 1, "b", 3, "f", 4), dir(3, 1, "l", 7), file(4, 2), api.Node{Ino: 7, Kind: api.Link, Links: 1, Text: "/a"})
}

// files are so many of them in the first directory.
func files(many int) api.FS {
	top := dir(1, 0)
	f := fs(many+2, top)
	for i := range many {
		f.L = append(f.L, file(i+2, 1))
		f.L[0].L = append(f.L[0].L, api.Entry{Name: fmt.Sprintf("f%03d", i), Ino: i + 2})
	}
	return f
}

func TestNew(t *testing.T) { // P8.1
	f := tree.New()
	if f.Next != 2 || len(f.L) != 1 || !node.Same(f.L[0], api.Node{Ino: 1, Kind: api.Dir}) || !tree.Rows(f) || !tree.Right(f) {
		t.Error(f)
	}
	if tree.Names(f, 1) != 0 || tree.Below(f, 1, 1) {
		t.Error("the first directory has a name, or is below itself")
	}
	f.L[0].Links = 5
	if g := tree.New(); g.L[0].Links != 0 {
		t.Error("two share what they are made of")
	}
}

func TestRows(t *testing.T) { // P8.1
	for i, f := range []api.FS{fs(1), fs(math.MaxInt), tree.New(), some(), fs(5, file(2, 0), file(4, 9)), fs(math.MaxInt, dir(1, 3, "x", 99)), files(255), fs(8, dir(5, 0, "a", 5))} {
		if !tree.Rows(f) {
			t.Error(i, f)
		}
	}
	bad := file(3, 1)
	bad.Links = -1
	for i, f := range []api.FS{{}, fs(0), fs(-1), fs(math.MinInt), fs(2, file(2, 1)), fs(4, file(2, 1), file(4, 1)), fs(5, file(2, 1), file(2, 1)), fs(5, file(3, 1), file(2, 1)), fs(5, file(0, 1)), fs(5, bad), fs(5, file(1, 65)), files(256)} {
		if tree.Rows(f) {
			t.Error(i, f)
		}
	}
}

func TestRight(t *testing.T) { // P8.1
	for i, f := range []api.FS{tree.New(), some(), files(255), fs(math.MaxInt, dir(1, 0))} {
		if !tree.Right(f) {
			t.Error(i, f)
		}
	}
	for i, f := range []api.FS{
		{}, fs(1), fs(9), files(256), fs(1, dir(1, 0)),
		fs(9, file(1, 0)), fs(9, dir(2, 0)), fs(9, dir(1, 1)), fs(9, dir(1, 1, "a", 1)), fs(9, dir(1, 0, "a", 1)),
		fs(9, dir(1, 0, "a", 2)), fs(9, dir(1, 0), file(2, 0)), fs(9, dir(1, 0), file(2, 1)), fs(9, dir(1, 0), dir(2, 0)),
		fs(9, dir(1, 0, "a", 2), file(2, 0)), fs(9, dir(1, 0, "a", 2), file(2, 2)), fs(9, dir(1, 0, "a", 2, "b", 2), file(2, 1)),
		fs(9, dir(1, 0, "a", 2, "b", 2), dir(2, 2)), fs(9, dir(1, 0, "a", 2, "b", 2), dir(2, 1)),
		fs(9, dir(1, 0, "a", 2), dir(2, 1, "b", 1)), fs(9, dir(1, 1, "a", 2), dir(2, 1, "b", 1)),
		fs(9, dir(1, 0), dir(2, 1, "x", 2)), fs(9, dir(1, 0), dir(2, 1, "x", 3), dir(3, 1, "x", 2)),
		fs(9, dir(1, 0), dir(2, 1, "x", 3), dir(3, 1, "f", 4, "x", 2), file(4, 1)),
		fs(9, dir(1, 0, "a", 2), dir(2, 1, "b", 5)), fs(9, dir(1, 0, "a", 3), file(3, 1), file(4, 1)),
	} {
		if tree.Right(f) {
			t.Error(i, f)
		}
	}
	if f := fs(9, dir(1, 0, "a", 2, "b", 2), file(2, 2)); !tree.Right(f) {
		t.Error(f)
	}
}

func TestNames(t *testing.T) { // P8.1
	f := some()
	for ino, many := range map[int]int{1: 0, 2: 1, 3: 1, 4: 2, 5: 0, 7: 1, 0: 0, -1: 0, math.MaxInt: 0} {
		if x := tree.Names(f, ino); x != many {
			t.Error(ino, x)
		}
	}
	if x := tree.Names(fs(9, dir(3, 0, "a", 8, "b", 8, "c", 3), dir(5, 0, "a", 8)), 8); x != 3 {
		t.Error(x)
	}
}

func TestFind(t *testing.T) { // P8.1
	f := some()
	for _, n := range f.L {
		if m, ok := tree.Find(f, n.Ino); !ok || !node.Same(m, n) {
			t.Error(n.Ino, m, ok)
		}
	}
	for _, ino := range []int{0, 5, 6, 8, 9, -1, math.MaxInt, math.MinInt} {
		if m, ok := tree.Find(f, ino); ok || !node.Same(m, api.Node{}) {
			t.Error(ino, m, ok)
		}
	}
	if m, ok := tree.Find(fs(1), 1); ok || !node.Same(m, api.Node{}) {
		t.Error(m, ok)
	}
}

func TestPutAndOut(t *testing.T) { // P8.1
	f := fs(9, file(2, 0), file(5, 0))
	other := api.Node{Ino: 5, Kind: api.Link, Text: "new"}
	for i, x := range []struct {
		n    api.Node
		want api.FS
	}{
		{file(1, 0), fs(9, file(1, 0), file(2, 0), file(5, 0))},
		{file(3, 0), fs(9, file(2, 0), file(3, 0), file(5, 0))},
		{file(8, 0), fs(9, file(2, 0), file(5, 0), file(8, 0))},
		{file(9, 0), fs(10, file(2, 0), file(5, 0), file(9, 0))},
		{file(50, 0), fs(51, file(2, 0), file(5, 0), file(50, 0))},
		{other, fs(9, file(2, 0), other)},
	} {
		if g := tree.Put(f, x.n); !tree.Same(g, x.want) {
			t.Error(i, g)
		}
	}
	for ino, want := range map[int]api.FS{2: fs(9, file(5, 0)), 5: fs(9, file(2, 0)), 1: f, 3: f, 7: f, -1: f} {
		if g := tree.Out(f, ino); !tree.Same(g, want) {
			t.Error(ino, g)
		}
	}
	if !tree.Same(f, fs(9, file(2, 0), file(5, 0))) {
		t.Error("what was handed in changed")
	}
	roomy := api.FS{L: slices.Grow(slices.Clone(f.L), 9), Next: 9}
	one := tree.Put(roomy, file(6, 0))
	tree.Put(roomy, file(7, 0))
	if one.L[2].Ino != 6 {
		t.Error("two that go on from one disturb each other")
	}
}

func TestBelow(t *testing.T) { // P8.1
	f := some()
	below := map[int][]int{1: {2, 3, 4, 7}, 2: {3, 4, 7}, 3: {7}}
	for top := range 10 {
		for ino := range 10 {
			if x := tree.Below(f, ino, top); x != slices.Contains(below[top], ino) {
				t.Error(ino, top, x)
			}
		}
	}
	round := fs(9, dir(2, 0, "a", 3, "gone", 6), dir(3, 0, "b", 4), dir(4, 0, "a", 2, "x", 8))
	for _, top := range []int{2, 3, 4} {
		for ino, want := range map[int]bool{1: false, 2: true, 3: true, 4: true, 5: false, 6: true, 8: true, 0: false} {
			if x := tree.Below(round, ino, top); x != want {
				t.Error(ino, top, x)
			}
		}
	}
	if tree.Below(round, 6, 6) || tree.Below(round, 2, 1) || !tree.Below(fs(3, dir(2, 0, "a", 2)), 2, 2) {
		t.Error("below what isn't there, or not below itself")
	}
}

func TestText(t *testing.T) { // P8.2
	if s := tree.Text(tree.New()); s != "\x04\x01\x02\x04\x00\x00\x00" {
		t.Errorf("%x", s)
	}
	if s := tree.Text(fs(-1)); s != "\x01\x00" {
		t.Errorf("%x", s)
	}
	f := some()
	s := octet.Num(octet.Fold(9)) + octet.Num(5)
	for _, n := range f.L {
		s += node.Text(n)
	}
	if x := tree.Text(f); x != s {
		t.Errorf("%x", x)
	}
}

func TestTakeRefuses(t *testing.T) { // P8.2
	top, bad := node.Text(dir(1, 0)), "\x80\x00"
	big := files(256)
	for i, x := range []struct {
		s string
		e api.Errno
	}{
		{"", api.ErrMore}, {"\x04", api.ErrMore}, {"\x04\x01", api.ErrMore}, {"\x04\x01" + top[:3], api.ErrMore}, {"\x04\x02" + top, api.ErrMore},
		{bad, api.ErrForm}, {"\x04" + bad, api.ErrForm}, {"\x04\x01" + bad, api.ErrForm},
		{"\x04" + octet.Num(257), api.ErrBig}, {"\x04" + octet.Num(math.MaxUint64), api.ErrBig}, {"\x04" + octet.Num(256), api.ErrMore}, {"\x01" + octet.Num(257), api.ErrBig},
		{"\x04\x01\x02\x02\x00" + octet.Num(4097), api.ErrBig},
		{"\x04\x01\x00\x04\x00\x00\x00", api.ErrForm},
		{"\x04\x02\x00\x04\x00\x00\x00", api.ErrForm},
		{"\x04\x01" + top + "z", api.ErrForm},
		{"\x02\x01" + top, api.ErrForm}, {"\x00\x00", api.ErrForm}, {"\x01\x00", api.ErrForm},
		{"\x08\x02" + top + top, api.ErrForm},
		{"\x08\x02" + node.Text(file(2, 0)) + top, api.ErrForm},
		{tree.Text(big), api.ErrBig},
	} {
		if f, e := tree.Take(x.s); e != x.e || !tree.Same(f, api.FS{}) {
			t.Errorf("%d: %v %d", i, f, e)
		}
	}
}

func TestSame(t *testing.T) { // P8.1
	for i, change := range []func(f *api.FS){
		func(f *api.FS) { f.Next++ },
		func(f *api.FS) { f.L = f.L[1:] },
		func(f *api.FS) { f.L = f.L[:4] },
		func(f *api.FS) { f.L[3].Text = "other" },
		func(f *api.FS) { f.L[0].L[0].Name = "other" },
		func(f *api.FS) { f.L[4].Links++ },
		func(f *api.FS) { f.L[0], f.L[1] = f.L[1], f.L[0] },
	} {
		f := some()
		if !tree.Same(f, some()) {
			t.Fatal("the same")
		}
		change(&f)
		if tree.Same(f, some()) || tree.Same(some(), f) {
			t.Error(i, f)
		}
	}
	if !tree.Same(api.FS{}, api.FS{L: []api.Node{}}) {
		t.Error("two lists without elements")
	}
}

func TestWhatFollows(t *testing.T) { // P8.3
	r := rand.New(rand.NewSource(9))
	for range 100 {
		f := fs(1)
		have := map[int]api.Node{}
		for range 40 {
			ino := 1 + r.Intn(20)
			n := file(ino, r.Intn(65))
			if r.Intn(3) == 0 {
				f = tree.Out(f, ino)
				delete(have, ino)
			} else {
				f = tree.Put(f, n)
				have[ino] = n
			}
			if !tree.Rows(f) || len(f.L) != len(have) {
				t.Fatal(f)
			}
			for ino := range 22 {
				n, is := have[ino]
				if m, ok := tree.Find(f, ino); ok != is || !node.Same(m, n) {
					t.Fatal(ino, m, ok)
				}
			}
		}
		if g, e := tree.Take(tree.Text(f)); e != api.OK || !tree.Same(f, g) {
			t.Fatal(g, e)
		}
	}
	for i, f := range []api.FS{tree.New(), some(), files(255), fs(1), fs(math.MaxInt, dir(1, 9, "x", 5))} {
		s := tree.Text(f)
		if g, e := tree.Take(s); e != api.OK || !tree.Same(f, g) {
			t.Error(i, e)
		}
		for range 20 {
			if g, e := tree.Take(s[:r.Intn(len(s))]); e != api.ErrMore || !tree.Same(g, api.FS{}) {
				t.Error(i, g, e)
			}
		}
	}
}
