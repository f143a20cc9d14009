package dirs_test

import (
	"fmt"
	"math"
	"math/rand"
	"strings"
	"testing"

	"copyhold/api"
	"copyhold/dirs"
	"copyhold/name"
	"copyhold/node"
	"copyhold/tree"
)

func dir(ino, links int, l ...any) api.Node {
	n := api.Node{Ino: ino, Kind: api.Dir, Links: links}
	for i := 0; i < len(l); i += 2 {
		n.L = append(n.L, api.Entry{Name: l[i].(string), Ino: l[i+1].(int)})
	}
	return n
}

func file(ino, links int, text string) api.Node {
	return api.Node{Ino: ino, Kind: api.File, Links: links, Text: text}
}

func link(ino, links int, text string) api.Node {
	return api.Node{Ino: ino, Kind: api.Link, Links: links, Text: text}
}

// some is a right file system: /d (2) with /d/e (3), /d/f (4, also /g), /d/e/l (7); /h (5), an empty directory; /x (6).
func some() api.FS {
	return api.FS{Next: 20, L: []api.Node{
		dir(1, 0, "d", 2, "g", 4, "h", 5, "x", 6),
		dir(2, 1, "e", 3, "f", 4),
		dir(3, 1, "l", 7),
		file(4, 2, "four"),
		dir(5, 1),
		file(6, 1, "six"),
		link(7, 1, "/d"),
	}}
}

// crowd has a directory (2) with many entries, all of them of the file 3, or as many files as there is room for, and an empty directory 900.
func crowd(t *testing.T, many int) api.FS {
	t.Helper()
	f := api.FS{Next: 1000, L: []api.Node{dir(1, 0, "crowd", 2, "empty", 900, "z", 901), dir(2, 1)}}
	for i := 0; i < many; {
		n := file(3+i, 0, "")
		for ; i < many && n.Links < 60; i++ {
			n.Links++
			f.L[1].L = append(f.L[1].L, api.Entry{Name: fmt.Sprintf("n%03d", i), Ino: n.Ino})
		}
		f.L = append(f.L, n)
	}
	f.L = append(f.L, dir(900, 1), file(901, 1, ""))
	if !tree.Right(f) {
		t.Fatal("not right")
	}
	return f
}

// packed has as many nodes as there may be, in two directories.
func packed(t *testing.T) api.FS {
	t.Helper()
	f := api.FS{Next: 300, L: []api.Node{dir(1, 0, "d", 2), dir(2, 1)}}
	for i := 3; i <= 256; i++ {
		f.L = append(f.L, file(i, 1, ""))
		at := &f.L[i%2]
		at.L = append(at.L, api.Entry{Name: fmt.Sprintf("n%03d", i), Ino: i})
	}
	if !tree.Right(f) || len(f.L) != 256 {
		t.Fatal("not right")
	}
	return f
}

// want holds what comes out against what is asked for.
func want(t *testing.T, what any, f api.FS, e api.Errno, g api.FS, no api.Errno) {
	t.Helper()
	if e != no || !tree.Same(f, g) {
		t.Errorf("%v: %d %v, not %d %v", what, e, f, no, g)
	}
	if !tree.Right(f) {
		t.Errorf("%v: not right: %v", what, f)
	}
}

func TestDir(t *testing.T) { // P10.1
	f := some()
	for _, ino := range []int{1, 2, 3, 5} {
		n, _ := tree.Find(f, ino)
		if m, e := dirs.Dir(f, ino); e != api.OK || !node.Same(m, n) {
			t.Error(ino, m, e)
		}
	}
	for ino, no := range map[int]api.Errno{4: api.ErrNotDir, 7: api.ErrNotDir, 0: api.ErrNone, 8: api.ErrNone, -1: api.ErrNone, math.MaxInt: api.ErrNone} {
		if m, e := dirs.Dir(f, ino); e != no || !node.Same(m, api.Node{}) {
			t.Error(ino, m, e)
		}
	}
}

func TestLook(t *testing.T) { // P10.1
	f := some()
	for _, x := range []struct {
		dir int
		s   string
		ino int
		e   api.Errno
	}{
		{1, "d", 2, api.OK}, {1, "g", 4, api.OK}, {2, "f", 4, api.OK}, {2, "e", 3, api.OK}, {3, "l", 7, api.OK}, {1, "h", 5, api.OK},
		{1, "f", 0, api.ErrNone}, {5, "a", 0, api.ErrNone}, {1, "", 0, api.ErrName}, {1, "..", 0, api.ErrName}, {1, ".", 0, api.ErrName}, {1, "a/b", 0, api.ErrName}, {1, strings.Repeat("a", 33), 0, api.ErrName},
		{9, "", 0, api.ErrNone}, {9, "d", 0, api.ErrNone}, {4, "", 0, api.ErrNotDir}, {7, "l", 0, api.ErrNotDir},
	} {
		n, _ := tree.Find(f, x.ino)
		if m, e := dirs.Look(f, x.dir, x.s); e != x.e || !node.Same(m, n) {
			t.Error(x, m, e)
		}
	}
}

func TestWalk(t *testing.T) { // P10.1
	f := some()
	for path, ino := range map[string]int{"/": 1, "//.": 1, "/d": 2, "/d/e": 3, "/d/e/l": 7, "/d/f": 4, "/g": 4, "/./d//e/": 3} {
		n, _ := tree.Find(f, ino)
		if m, e := dirs.Walk(f, path); e != api.OK || !node.Same(m, n) {
			t.Error(path, m, e)
		}
	}
	for path, no := range map[string]api.Errno{"": api.ErrName, "d": api.ErrName, "/..": api.ErrName, "/none/..": api.ErrName, "/g/..": api.ErrName, "/none": api.ErrNone, "/none/a": api.ErrNone, "/g/a": api.ErrNotDir, "/d/e/l/d": api.ErrNotDir, "/d/none": api.ErrNone, "/g/none/a": api.ErrNotDir} {
		if m, e := dirs.Walk(f, path); e != no || !node.Same(m, api.Node{}) {
			t.Error(path, m, e)
		}
	}
	if n, e := dirs.Walk(tree.New(), "/"); e != api.OK || !node.Same(n, tree.New().L[0]) {
		t.Error(n, e)
	}
}

func TestAdd(t *testing.T) { // P10.2
	f := some()
	g, e := dirs.Add(f, 2, "new", api.Node{Ino: 99, Kind: api.File, Links: 7, Text: "n"})
	after := some()
	after.Next = 21
	after.L[1] = dir(2, 1, "e", 3, "f", 4, "new", 20)
	after.L = append(after.L, file(20, 1, "n"))
	want(t, "file", g, e, after, api.OK)
	g, e = dirs.Add(f, 5, "a", api.Node{Kind: api.Dir})
	after = some()
	after.Next = 21
	after.L[4] = dir(5, 1, "a", 20)
	after.L = append(after.L, dir(20, 1))
	want(t, "dir", g, e, after, api.OK)
	g, e = dirs.Add(tree.New(), 1, "l", api.Node{Kind: api.Link, Text: "x"})
	want(t, "link", g, e, api.FS{Next: 3, L: []api.Node{dir(1, 0, "l", 2), link(2, 1, "x")}}, api.OK)
	ok := api.Node{Kind: api.File}
	full, packed := crowd(t, 256), packed(t)
	for i, x := range []struct {
		f   api.FS
		dir int
		s   string
		n   api.Node
		e   api.Errno
	}{
		{f, 9, "", api.Node{}, api.ErrNone}, {f, 4, "", api.Node{}, api.ErrNotDir}, {f, 1, "..", api.Node{}, api.ErrName}, {f, 1, "d", api.Node{}, api.ErrThere},
		{f, 1, "new", api.Node{}, api.ErrArg}, {f, 1, "new", api.Node{Kind: 4}, api.ErrArg}, {f, 1, "new", api.Node{Kind: api.File, Text: strings.Repeat("x", 4097)}, api.ErrArg},
		{f, 1, "new", api.Node{Kind: api.Dir, Text: "x"}, api.ErrArg}, {f, 1, "new", api.Node{Kind: api.Dir, L: []api.Entry{{Name: "a", Ino: 4}}}, api.ErrArg}, {f, 1, "new", api.Node{Kind: api.File, L: []api.Entry{{Name: "a", Ino: 4}}}, api.ErrArg},
		{full, 2, "n000", api.Node{}, api.ErrThere}, {full, 2, "new", api.Node{}, api.ErrRoom}, {full, 2, "new", ok, api.ErrRoom}, {full, 2, "/", ok, api.ErrName},
		{packed, 1, "new", api.Node{}, api.ErrRoom}, {packed, 2, "new", ok, api.ErrRoom}, {packed, 1, "d", ok, api.ErrThere}, {packed, 3, "d", ok, api.ErrNotDir},
	} {
		g, e := dirs.Add(x.f, x.dir, x.s, x.n)
		want(t, i, g, e, x.f, x.e)
	}
	if g, e := dirs.Add(crowd(t, 255), 2, "zz", ok); e != api.OK || len(g.L[1].L) != 256 {
		t.Error(e)
	}
	if g, e := dirs.Add(tree.Out(leave(packed, 1, "n004"), 4), 1, "zz", ok); e != api.OK || len(g.L) != 256 || !tree.Right(g) {
		t.Error(e)
	}
	want(t, "handed in", f, api.OK, some(), api.OK)
}

// leave is a file system whose directory has a name less.
func leave(f api.FS, ino int, s string) api.FS {
	d, _ := tree.Find(f, ino)
	d.L, _, _ = name.Leave(d.L, s)
	return tree.Put(f, d)
}

func TestGive(t *testing.T) { // P10.2
	f := some()
	g, e := dirs.Give(f, 5, "six", 6)
	after := some()
	after.L[4], after.L[5] = dir(5, 1, "six", 6), file(6, 2, "six")
	want(t, "file", g, e, after, api.OK)
	g, e = dirs.Give(f, 3, "k", 7)
	after = some()
	after.L[2], after.L[6] = dir(3, 1, "k", 7, "l", 7), link(7, 2, "/d")
	want(t, "link", g, e, after, api.OK)
	full := crowd(t, 256)
	many := api.FS{Next: 9, L: []api.Node{dir(1, 0), file(2, 64, ""), file(3, 63, "")}}
	for i := range 127 {
		many.L[0].L = append(many.L[0].L, api.Entry{Name: fmt.Sprintf("n%03d", i), Ino: 2 + i/64})
	}
	for i, x := range []struct {
		f   api.FS
		dir int
		s   string
		ino int
		e   api.Errno
	}{
		{f, 9, "", 99, api.ErrNone}, {f, 4, "", 99, api.ErrNotDir}, {f, 1, "", 99, api.ErrNone}, {f, 1, "", 2, api.ErrIsDir}, {f, 1, "d", 1, api.ErrIsDir}, {f, 1, "", 4, api.ErrName}, {f, 1, "a/", 4, api.ErrName},
		{f, 1, "d", 4, api.ErrThere}, {f, 1, "g", 4, api.ErrThere},
		{full, 2, "new", 901, api.ErrRoom}, {full, 2, "n003", 901, api.ErrThere}, {full, 2, "..", 901, api.ErrName}, {full, 2, "new", 900, api.ErrIsDir},
		{many, 1, "new", 2, api.ErrRoom}, {many, 1, "n000", 2, api.ErrThere},
	} {
		g, e := dirs.Give(x.f, x.dir, x.s, x.ino)
		want(t, i, g, e, x.f, x.e)
	}
	if g, e := dirs.Give(many, 1, "new", 3); e != api.OK || g.L[2].Links != 64 || !tree.Right(g) {
		t.Error(e)
	}
	if g, e := dirs.Give(crowd(t, 255), 2, "zz", 901); e != api.OK || len(g.L[1].L) != 256 || !tree.Right(g) {
		t.Error(e)
	}
	want(t, "handed in", f, api.OK, some(), api.OK)
}

func TestTake(t *testing.T) { // P10.2
	f := some()
	g, e := dirs.Take(f, 1, "g")
	after := some()
	after.L[0], after.L[3] = dir(1, 0, "d", 2, "h", 5, "x", 6), file(4, 1, "four")
	want(t, "one of two", g, e, after, api.OK)
	g, e = dirs.Take(g, 2, "f")
	after.L[1] = dir(2, 1, "e", 3)
	want(t, "the last one", g, e, tree.Out(after, 4), api.OK)
	g, e = dirs.Take(f, 1, "h")
	after = some()
	after.L[0] = dir(1, 0, "d", 2, "g", 4, "x", 6)
	want(t, "an empty directory", g, e, tree.Out(after, 5), api.OK)
	for i, x := range []struct {
		dir int
		s   string
		e   api.Errno
	}{{1, "d", api.ErrFull}, {2, "e", api.ErrFull}, {1, "none", api.ErrNone}, {1, "..", api.ErrName}, {4, "..", api.ErrNotDir}, {99, "..", api.ErrNone}} {
		g, e := dirs.Take(f, x.dir, x.s)
		want(t, i, g, e, some(), x.e)
	}
	if g, e := dirs.Take(tree.New(), 1, "a"); e != api.ErrNone || !tree.Same(g, tree.New()) {
		t.Error(g, e)
	}
}

func TestMove(t *testing.T) { // P10.3
	f := some()
	top := func(l ...any) api.FS { f := some(); f.L[0] = dir(1, 0, l...); return f }
	for i, x := range []struct {
		dir  int
		s    string
		to   int
		t    string
		want func() api.FS
	}{
		{1, "x", 1, "a", func() api.FS { return top("a", 6, "d", 2, "g", 4, "h", 5) }},
		{1, "x", 5, "y", func() api.FS { f := top("d", 2, "g", 4, "h", 5); f.L[4] = dir(5, 1, "y", 6); return f }},
		{1, "d", 5, "d", func() api.FS { f := top("g", 4, "h", 5, "x", 6); f.L[4] = dir(5, 1, "d", 2); return f }},
		{1, "d", 1, "h", func() api.FS { return tree.Out(top("g", 4, "h", 2, "x", 6), 5) }},
		{2, "e", 1, "h", func() api.FS {
			f := tree.Out(top("d", 2, "g", 4, "h", 3, "x", 6), 5)
			f.L[1] = dir(2, 1, "f", 4)
			return f
		}},
		{1, "x", 2, "f", func() api.FS {
			f := top("d", 2, "g", 4, "h", 5)
			f.L[1], f.L[3] = dir(2, 1, "e", 3, "f", 6), file(4, 1, "four")
			return f
		}},
		{3, "l", 1, "x", func() api.FS { f := tree.Out(top("d", 2, "g", 4, "h", 5, "x", 7), 6); f.L[2] = dir(3, 1); return f }},
		{1, "g", 2, "f", some}, {2, "f", 1, "g", some}, {1, "x", 1, "x", some}, {1, "d", 1, "d", some},
	} {
		g, e := dirs.Move(f, x.dir, x.s, x.to, x.t)
		want(t, i, g, e, x.want(), api.OK)
	}
	want(t, "handed in", f, api.OK, some(), api.OK)
}

func TestMoveRefuses(t *testing.T) { // P10.3
	f := some()
	full := crowd(t, 256)
	for i, x := range []struct {
		f   api.FS
		dir int
		s   string
		to  int
		t   string
		e   api.Errno
	}{
		{f, 9, "", 9, "", api.ErrNone}, {f, 4, "", 9, "", api.ErrNotDir}, {f, 1, "", 9, "", api.ErrName}, {f, 1, "none", 4, "", api.ErrNone},
		{f, 1, "d", 9, "", api.ErrNone}, {f, 1, "d", 4, "", api.ErrNotDir}, {f, 1, "d", 2, "", api.ErrName}, {f, 1, "d", 3, "a/b", api.ErrName},
		{f, 1, "d", 2, "a", api.ErrWithin}, {f, 1, "d", 3, "a", api.ErrWithin}, {f, 1, "d", 3, "l", api.ErrWithin}, {f, 2, "e", 3, "l", api.ErrWithin}, {f, 1, "h", 5, "h", api.ErrWithin},
		{f, 1, "d", 1, "x", api.ErrNotDir}, {f, 1, "h", 1, "x", api.ErrNotDir}, {f, 1, "h", 3, "l", api.ErrNotDir},
		{f, 1, "x", 1, "h", api.ErrIsDir}, {f, 1, "x", 1, "d", api.ErrIsDir}, {f, 3, "l", 1, "d", api.ErrIsDir}, {f, 2, "f", 1, "d", api.ErrIsDir},
		{f, 1, "h", 1, "d", api.ErrFull}, {f, 1, "h", 2, "e", api.ErrFull}, {f, 2, "e", 1, "d", api.ErrFull},
		{full, 1, "z", 2, "new", api.ErrRoom}, {full, 1, "empty", 2, "new", api.ErrRoom}, {full, 1, "empty", 2, "n000", api.ErrNotDir},
	} {
		g, e := dirs.Move(x.f, x.dir, x.s, x.to, x.t)
		want(t, i, g, e, x.f, x.e)
	}
	if g, e := dirs.Move(full, 1, "z", 2, "n000"); e != api.OK || !tree.Right(g) || len(g.L[1].L) != 256 {
		t.Error("another name's room", e)
	}
	if g, e := dirs.Move(full, 2, "n000", 2, "a"); e != api.OK || !tree.Right(g) || g.L[1].L[0] != (api.Entry{Name: "a", Ino: 3}) {
		t.Error("its own room", e)
	}
	if g, e := dirs.Move(full, 2, "n000", 1, "new"); e != api.OK || !tree.Right(g) {
		t.Error("out of a full one", e)
	}
}

func TestWhatFollows(t *testing.T) { // P10.4
	r := rand.New(rand.NewSource(11))
	some := func() string { return []string{"a", "b", "c", "d", "..", ""}[r.Intn(4+r.Intn(3))] }
	for range 60 {
		f := tree.New()
		ino := func() int { return 1 + r.Intn(f.Next) }
		for range 200 {
			d, s, to, u := ino(), some(), ino(), some()
			was, none := dirs.Look(f, d, s)
			var g api.FS
			var e api.Errno
			switch r.Intn(5) {
			case 0, 1:
				kind := 1 + r.Intn(3)
				if g, e = dirs.Add(f, d, s, api.Node{Kind: kind}); e == api.OK {
					if n, e := dirs.Look(g, d, s); e != api.OK || n.Kind != kind || n.Ino != f.Next || n.Links != 1 {
						t.Fatal(n, e)
					}
				}
			case 2:
				if g, e = dirs.Give(f, d, s, to); e == api.OK {
					if n, e := dirs.Look(g, d, s); e != api.OK || n.Ino != to {
						t.Fatal(n, e)
					}
				}
			case 3:
				if g, e = dirs.Take(f, d, s); e == api.OK {
					if n, e := dirs.Look(g, d, s); e != api.ErrNone {
						t.Fatal(n, e)
					}
					if n, ok := tree.Find(g, was.Ino); ok != (was.Links > 1) || ok && n.Links != was.Links-1 {
						t.Fatal(n, ok)
					}
				}
			case 4:
				if g, e = dirs.Move(f, d, s, to, u); e == api.OK {
					if n, e := dirs.Look(g, to, u); none != api.OK || e != api.OK || n.Ino != was.Ino {
						t.Fatal(n, e)
					}
				}
			}
			if e != api.OK && !tree.Same(f, g) {
				t.Fatal("refused, and changed", e)
			}
			if !tree.Right(g) {
				t.Fatal("not right", g)
			}
			f = g
		}
	}
}
