package ops_test

import (
	"fmt"
	"math"
	"math/rand"
	"slices"
	"strings"
	"testing"

	"copyhold/api"
	"copyhold/node"
	"copyhold/ops"
	"copyhold/tree"
)

func dir(ino, links int, l ...any) api.Node {
	n := api.Node{Ino: ino, Kind: api.Dir, Links: links}
	for i := 0; i < len(l); i += 2 {
		n.L = append(n.L, api.Entry{Name: l[i].(string), Ino: l[i+1].(int)})
	}
	return n
}

func file(ino, links int, text string) api.Node {
	return api.Node{Ino: ino, Kind: api.File, Links: links, Text: text}
}

// some is a right file system: /d (2) with /d/e (3), /d/f (4, also /g), /d/e/l (7); /h (5), an empty directory; /x (6).
func some() api.FS {
	return api.FS{Next: 20, L: []api.Node{
		dir(1, 0, "d", 2, "g", 4, "h", 5, "x", 6),
		dir(2, 1, "e", 3, "f", 4),
		dir(3, 1, "l", 7),
		file(4, 2, "four"),
		dir(5, 1),
		file(6, 1, "sixth"),
		{Ino: 7, Kind: api.Link, Links: 1, Text: "/d"},
	}}
}

func long(many int) string { return strings.Repeat("x", many) }

// put is some file system with other nodes.
func put(l ...api.Node) api.FS {
	f := some()
	for _, n := range l {
		f = tree.Put(f, n)
	}
	return f
}

// check does a call, and holds what comes of it against what is asked for.
func check(t *testing.T, f api.FS, c api.Call, g api.FS, r api.Reply) {
	t.Helper()
	h, x := ops.Do(f, c)
	if !ops.Same(x, r) {
		t.Errorf("%.200v: %.200v, not %.200v", fmt.Sprint(c), fmt.Sprint(x), fmt.Sprint(r))
	}
	if !tree.Same(h, g) {
		t.Errorf("%.200v: another file system", fmt.Sprint(c))
	}
	if !tree.Right(h) {
		t.Errorf("%.200v: not right", fmt.Sprint(c))
	}
}

// only does calls that are refused, or only look.
func only(t *testing.T, f api.FS, l map[*api.Call]api.Reply) {
	t.Helper()
	for c, r := range l {
		check(t, f, *c, f, r)
	}
}

func no(e api.Errno) api.Reply { return api.Reply{E: e} }

func TestLookStat(t *testing.T) { // P11.1
	only(t, some(), map[*api.Call]api.Reply{
		{Kind: api.CLook, Ino: 1, Name: "d"}:             {A: 2},
		{Kind: api.CLook, Ino: 2, Name: "f"}:             {A: 4},
		{Kind: api.CLook, Ino: 1, Name: "none"}:          no(api.ErrNone),
		{Kind: api.CLook, Ino: 1, Name: ".."}:            no(api.ErrName),
		{Kind: api.CLook, Ino: 4, Name: ".."}:            no(api.ErrNotDir),
		{Kind: api.CLook, Ino: 99, Name: ".."}:           no(api.ErrNone),
		{Kind: api.CStat, Ino: 1}:                        {A: api.Dir, B: 0, N: 4},
		{Kind: api.CStat, Ino: 4}:                        {A: api.File, B: 2, N: 4},
		{Kind: api.CStat, Ino: 5}:                        {A: api.Dir, B: 1, N: 0},
		{Kind: api.CStat, Ino: 7}:                        {A: api.Link, B: 1, N: 2},
		{Kind: api.CStat, Ino: 8}:                        no(api.ErrNone),
		{Kind: api.CStat, Ino: -1}:                       no(api.ErrNone),
		{Kind: api.CStatfs}:                              {A: 7, B: 11},
		{Kind: api.CStatfs, Ino: 99, Name: "/", To: -4}:  {A: 7, B: 11},
		{Kind: api.CReaddir, Ino: 1}:                     {Names: []string{"d", "g", "h", "x"}},
		{Kind: api.CReaddir, Ino: 5}:                     {},
		{Kind: api.CReaddir, Ino: 4}:                     no(api.ErrNotDir),
		{Kind: api.CReaddir, Ino: 99}:                    no(api.ErrNone),
		{Kind: api.CReadlnk, Ino: 7}:                     {Text: "/d"},
		{Kind: api.CReadlnk, Ino: 4}:                     no(api.ErrKind),
		{Kind: api.CReadlnk, Ino: 1}:                     no(api.ErrKind),
		{Kind: api.CReadlnk, Ino: 0}:                     no(api.ErrNone),
		{Kind: 0, Ino: 1, Name: "d"}:                     no(api.ErrArg),
		{Kind: 16, Ino: 1, Name: "d"}:                    no(api.ErrArg),
		{Kind: -1}:                                       no(api.ErrArg),
		{Kind: math.MaxInt, Ino: 1, Text: long(5000)}:    no(api.ErrArg),
		{Kind: math.MinInt, Ino: 99, Name: "..", To: 99}: no(api.ErrArg),
	})
	check(t, tree.New(), api.Call{Kind: api.CStatfs}, tree.New(), api.Reply{A: 1})
}

func TestReadWriteCut(t *testing.T) { // P11.1
	const limit = 1 << 40
	only(t, some(), map[*api.Call]api.Reply{
		{Kind: api.CRead, Ino: 6, At: 1, Many: 3}:               {Text: "ixt"},
		{Kind: api.CRead, Ino: 6, At: 3, Many: 99}:              {Text: "th"},
		{Kind: api.CRead, Ino: 6, At: 9, Many: 1}:               {},
		{Kind: api.CRead, Ino: 6, At: -1, Many: 1}:              no(api.ErrArg),
		{Kind: api.CRead, Ino: 6, At: limit, Many: 1}:           no(api.ErrArg),
		{Kind: api.CRead, Ino: 8, At: -1}:                       no(api.ErrNone),
		{Kind: api.CRead, Ino: 1, At: -1}:                       no(api.ErrKind),
		{Kind: api.CRead, Ino: 7, Many: 9}:                      no(api.ErrKind),
		{Kind: api.CWrite, Ino: 8, At: -1, Text: "x"}:           no(api.ErrNone),
		{Kind: api.CWrite, Ino: 7, At: -1, Text: "x"}:           no(api.ErrKind),
		{Kind: api.CWrite, Ino: 2, Text: "x"}:                   no(api.ErrKind),
		{Kind: api.CWrite, Ino: 6, At: -1, Text: "x"}:           no(api.ErrArg),
		{Kind: api.CWrite, Ino: 6, At: limit, Text: "x"}:        no(api.ErrArg),
		{Kind: api.CWrite, Ino: 6, At: 4096, Text: "x"}:         no(api.ErrBig),
		{Kind: api.CWrite, Ino: 6, At: 0, Text: long(4097)}:     no(api.ErrBig),
		{Kind: api.CWrite, Ino: 6, At: 2}:                       {},
		{Kind: api.CWrite, Ino: 6, At: 4096}:                    {},
		{Kind: api.CWrite, Ino: 6, At: 0, Text: "six"}:          {A: 3},
		{Kind: api.CCut, Ino: 8, Many: -1}:                      no(api.ErrNone),
		{Kind: api.CCut, Ino: 7, Many: -1}:                      no(api.ErrKind),
		{Kind: api.CCut, Ino: 1, Many: 0}:                       no(api.ErrKind),
		{Kind: api.CCut, Ino: 6, Many: -1}:                      no(api.ErrArg),
		{Kind: api.CCut, Ino: 6, Many: limit + 1}:               no(api.ErrArg),
		{Kind: api.CCut, Ino: 6, Many: 4097}:                    no(api.ErrBig),
		{Kind: api.CCut, Ino: 6, Many: 5, At: 3, Text: "other"}: {},
	})
	f := some()
	check(t, f, api.Call{Kind: api.CWrite, Ino: 6, At: 4, Text: "TH!", Many: 1}, put(file(6, 1, "sixtTH!")), api.Reply{A: 3})
	check(t, f, api.Call{Kind: api.CWrite, Ino: 6, At: 7, Text: "x"}, put(file(6, 1, "sixth\x00\x00x")), api.Reply{A: 1})
	check(t, f, api.Call{Kind: api.CWrite, Ino: 4, At: 0, Text: long(4096)}, put(file(4, 2, long(4096))), api.Reply{A: 4096})
	check(t, f, api.Call{Kind: api.CCut, Ino: 6, Many: 2, At: 9}, put(file(6, 1, "si")), api.Reply{})
	check(t, f, api.Call{Kind: api.CCut, Ino: 6, Many: 6}, put(file(6, 1, "sixth\x00")), api.Reply{})
	check(t, f, api.Call{Kind: api.CCut, Ino: 6}, put(file(6, 1, "")), api.Reply{})
}

func TestAdd(t *testing.T) { // P11.1
	f := some()
	check(t, f, api.Call{Kind: api.CCreate, Ino: 5, Name: "n", Text: "no text", To: 4}, put(dir(5, 1, "n", 20), file(20, 1, "")), api.Reply{A: 20})
	check(t, f, api.Call{Kind: api.CMkdir, Ino: 5, Name: "n", Text: "no text"}, put(dir(5, 1, "n", 20), dir(20, 1)), api.Reply{A: 20})
	check(t, f, api.Call{Kind: api.CSymlink, Ino: 5, Name: "n", Text: "to"}, put(dir(5, 1, "n", 20), api.Node{Ino: 20, Kind: api.Link, Links: 1, Text: "to"}), api.Reply{A: 20})
	check(t, f, api.Call{Kind: api.CSymlink, Ino: 5, Name: "n", Text: long(4096)}, put(dir(5, 1, "n", 20), api.Node{Ino: 20, Kind: api.Link, Links: 1, Text: long(4096)}), api.Reply{A: 20})
	only(t, f, map[*api.Call]api.Reply{
		{Kind: api.CSymlink, Ino: 99, Name: "", Text: long(4097)}: no(api.ErrBig),
		{Kind: api.CSymlink, Ino: 5, Name: "n", Text: long(4097)}: no(api.ErrBig),
		{Kind: api.CSymlink, Ino: 1, Name: "d", Text: "x"}:        no(api.ErrThere),
	})
	for _, kind := range []int{api.CCreate, api.CMkdir, api.CSymlink} {
		only(t, f, map[*api.Call]api.Reply{
			{Kind: kind, Ino: 99, Name: ".."}: no(api.ErrNone),
			{Kind: kind, Ino: 4, Name: ".."}:  no(api.ErrNotDir),
			{Kind: kind, Ino: 1, Name: ".."}:  no(api.ErrName),
			{Kind: kind, Ino: 1, Name: "g"}:   no(api.ErrThere),
		})
		g := tree.New()
		for i := range 255 {
			var r api.Reply
			if g, r = ops.Do(g, api.Call{Kind: kind, Ino: 1, Name: fmt.Sprint("n", i)}); r.E != api.OK || r.A != i+2 {
				t.Fatal(i, r)
			}
		}
		only(t, g, map[*api.Call]api.Reply{{Kind: kind, Ino: 1, Name: "new"}: no(api.ErrRoom)})
	}
	g, r := ops.Do(tree.New(), api.Call{Kind: api.CCreate, Ino: 1, Name: "a"})
	if r.A != 2 || r.E != api.OK {
		t.Error(r)
	}
	check(t, g, api.Call{Kind: api.CCreate, Ino: 1, Name: "a"}, g, no(api.ErrThere))
}

func TestTakeGiveMove(t *testing.T) { // P11.1
	f := some()
	less := put(dir(1, 0, "d", 2, "g", 4, "h", 5))
	check(t, f, api.Call{Kind: api.CRemove, Ino: 1, Name: "x"}, tree.Out(less, 6), api.Reply{})
	check(t, f, api.Call{Kind: api.CRemove, Ino: 2, Name: "f"}, put(dir(2, 1, "e", 3), file(4, 1, "four")), api.Reply{})
	check(t, f, api.Call{Kind: api.CRemove, Ino: 3, Name: "l"}, tree.Out(put(dir(3, 1)), 7), api.Reply{})
	check(t, f, api.Call{Kind: api.CRmdir, Ino: 1, Name: "h"}, tree.Out(put(dir(1, 0, "d", 2, "g", 4, "x", 6)), 5), api.Reply{})
	check(t, f, api.Call{Kind: api.CLink, Ino: 5, Name: "six", To: 6, Name2: "z"}, put(dir(5, 1, "six", 6), file(6, 2, "sixth")), api.Reply{})
	check(t, f, api.Call{Kind: api.CRename, Ino: 1, Name: "x", To: 5, Name2: "y"}, put(dir(1, 0, "d", 2, "g", 4, "h", 5), dir(5, 1, "y", 6)), api.Reply{})
	only(t, f, map[*api.Call]api.Reply{
		{Kind: api.CRemove, Ino: 1, Name: "d"}:                        no(api.ErrIsDir),
		{Kind: api.CRemove, Ino: 1, Name: "h"}:                        no(api.ErrIsDir),
		{Kind: api.CRemove, Ino: 1, Name: "none"}:                     no(api.ErrNone),
		{Kind: api.CRemove, Ino: 1, Name: ""}:                         no(api.ErrName),
		{Kind: api.CRemove, Ino: 6, Name: ""}:                         no(api.ErrNotDir),
		{Kind: api.CRmdir, Ino: 1, Name: "x"}:                         no(api.ErrNotDir),
		{Kind: api.CRmdir, Ino: 3, Name: "l"}:                         no(api.ErrNotDir),
		{Kind: api.CRmdir, Ino: 1, Name: "d"}:                         no(api.ErrFull),
		{Kind: api.CRmdir, Ino: 1, Name: "none"}:                      no(api.ErrNone),
		{Kind: api.CRmdir, Ino: 1, Name: "a/b"}:                       no(api.ErrName),
		{Kind: api.CRmdir, Ino: 99, Name: "a/b"}:                      no(api.ErrNone),
		{Kind: api.CLink, Ino: 1, Name: "new", To: 2}:                 no(api.ErrIsDir),
		{Kind: api.CLink, Ino: 1, Name: "d", To: 4}:                   no(api.ErrThere),
		{Kind: api.CLink, Ino: 1, Name: "new", To: 99}:                no(api.ErrNone),
		{Kind: api.CLink, Ino: 4, Name: "new", To: 99}:                no(api.ErrNotDir),
		{Kind: api.CRename, Ino: 1, Name: "d", To: 3, Name2: "n"}:     no(api.ErrWithin),
		{Kind: api.CRename, Ino: 1, Name: "x", To: 1, Name2: "h"}:     no(api.ErrIsDir),
		{Kind: api.CRename, Ino: 1, Name: "h", To: 1, Name2: "x"}:     no(api.ErrNotDir),
		{Kind: api.CRename, Ino: 1, Name: "h", To: 1, Name2: "d"}:     no(api.ErrFull),
		{Kind: api.CRename, Ino: 1, Name: "none", To: 1, Name2: "d"}:  no(api.ErrNone),
		{Kind: api.CRename, Ino: 1, Name: "x", To: 99, Name2: "d"}:    no(api.ErrNone),
		{Kind: api.CRename, Ino: 1, Name: "x", To: 1, Name2: ".."}:    no(api.ErrName),
		{Kind: api.CRename, Ino: 1, Name: "g", To: 2, Name2: "f"}:     {},
		{Kind: api.CRename, Ino: 1, Name: "x", To: 4, Name2: "where"}: no(api.ErrNotDir),
	})
}

func TestPlay(t *testing.T) { // P11.2
	l := []api.Call{
		{Kind: api.CMkdir, Ino: 1, Name: "a"}, {Kind: api.CCreate, Ino: 2, Name: "f"}, {Kind: api.CWrite, Ino: 3, Text: "hi"},
		{Kind: api.CRmdir, Ino: 1, Name: "a"}, {Kind: api.CRead, Ino: 3, Many: 9}, {Kind: 99}, {Kind: api.CReaddir, Ino: 2},
	}
	f, replies := ops.Play(tree.New(), l)
	want := []api.Reply{{A: 2}, {A: 3}, {A: 2}, no(api.ErrFull), {Text: "hi"}, no(api.ErrArg), {Names: []string{"f"}}}
	if !slices.EqualFunc(replies, want, ops.Same) {
		t.Error(replies)
	}
	if !tree.Same(f, api.FS{Next: 4, L: []api.Node{dir(1, 0, "a", 2), dir(2, 1, "f", 3), file(3, 1, "hi")}}) {
		t.Error(f)
	}
	if f, l := ops.Play(some(), nil); !tree.Same(f, some()) || len(l) != 0 {
		t.Error(l)
	}
}

func TestLooks(t *testing.T) { // P11.2
	for i, x := range []struct {
		c api.Call
		l []int
	}{
		{api.Call{Kind: api.CLook, Ino: 1, Name: "d"}, []int{0, 1, 2}},
		{api.Call{Kind: api.CLook, Ino: 1, Name: "none"}, []int{0, 1}},
		{api.Call{Kind: api.CStat, Ino: 4, Name: "d"}, []int{0, 4}},
		{api.Call{Kind: api.CRename, Ino: 1, Name: "x", To: 2, Name2: "f"}, []int{1, 2, 4, 6}},
		{api.Call{Kind: api.CRename, Ino: 1, Name: "h", To: 1, Name2: "x"}, []int{1, 5, 6}},
		{api.Call{Kind: api.CRename, Ino: 2, Name: "x", To: 1, Name2: "e"}, []int{1, 2, 3, 6}},
		{api.Call{Kind: api.CLink, Ino: 2, Name: "new", To: 6}, []int{2, 6}},
		{api.Call{Kind: api.CLink, Ino: 4, Name: "new", To: 4}, []int{4}},
		{api.Call{Kind: api.CReaddir, Ino: 99, To: -3}, []int{-3, 99}},
		{api.Call{Kind: 77, Ino: 3, To: 1, Name: "d", Name2: "l"}, []int{1, 2, 3, 7}},
		{api.Call{Kind: api.CStatfs, Ino: 3, To: 1, Name: "d", Name2: "l"}, []int{0}},
		{api.Call{Kind: api.CStatfs}, []int{0}},
		{api.Call{}, []int{0}},
		{api.Call{Ino: math.MaxInt, To: math.MinInt}, []int{math.MinInt, math.MaxInt}},
	} {
		if l := ops.Looks(some(), x.c); !slices.Equal(l, x.l) {
			t.Error(i, l)
		}
	}
}

// changed: are two rows of changes the same?
func changed(a, b []api.Change) bool {
	return slices.EqualFunc(a, b, func(x, y api.Change) bool {
		return x.Ino == y.Ino && x.Gone == y.Gone && node.Same(x.Node, y.Node)
	})
}

func TestChanges(t *testing.T) { // P11.3
	a := api.FS{Next: 9, L: []api.Node{file(2, 0, "a"), file(4, 0, "b"), file(5, 0, "c"), dir(6, 0, "x", 1)}}
	b := api.FS{Next: 12, L: []api.Node{file(1, 0, "n"), file(4, 0, "b"), file(5, 0, "C"), dir(6, 0, "x", 2), file(9, 0, "")}}
	want := []api.Change{{Ino: 1, Node: file(1, 0, "n")}, {Ino: 2, Gone: true}, {Ino: 5, Node: file(5, 0, "C")}, {Ino: 6, Node: dir(6, 0, "x", 2)}, {Ino: 9, Node: file(9, 0, "")}}
	if l := ops.Changes(a, b); !changed(l, want) {
		t.Error(l)
	}
	if l := ops.Changes(b, a); !changed(l, []api.Change{{Ino: 1, Gone: true}, {Ino: 2, Node: a.L[0]}, {Ino: 5, Node: a.L[2]}, {Ino: 6, Node: a.L[3]}, {Ino: 9, Gone: true}}) {
		t.Error(l)
	}
	if l := ops.Changes(a, api.FS{Next: 50, L: a.L}); len(l) != 0 {
		t.Error(l)
	}
	if l := ops.Changes(api.FS{Next: 1}, api.FS{Next: 1}); len(l) != 0 {
		t.Error(l)
	}
}

func TestApply(t *testing.T) { // P11.3
	f := api.FS{Next: 9, L: []api.Node{file(2, 0, "a"), file(4, 0, "b")}}
	l := []api.Change{{Ino: 2, Gone: true}, {Ino: 3, Node: file(3, 0, "c")}, {Ino: 4, Node: file(4, 0, "B")}, {Ino: 7, Gone: true}, {Ino: 3, Node: file(3, 0, "C")}, {Ino: 5, Node: file(5, 0, "")}, {Ino: 5, Gone: true}}
	for next, is := range map[int]int{0: 9, 8: 9, 9: 9, 10: 10, -5: 9, math.MinInt: 9, math.MaxInt: math.MaxInt} {
		if g := ops.Apply(f, l, next); !tree.Same(g, api.FS{Next: is, L: []api.Node{file(3, 0, "C"), file(4, 0, "B")}}) {
			t.Error(next, g)
		}
	}
	if g := ops.Apply(f, []api.Change{{Ino: 30, Node: file(30, 0, "")}}, 5); g.Next != 31 || len(g.L) != 3 {
		t.Error(g)
	}
	if g := ops.Apply(f, nil, 0); !tree.Same(g, f) || len(f.L) != 2 {
		t.Error(g)
	}
}

func TestSame(t *testing.T) { // P11.3
	one := func() api.Reply {
		return api.Reply{E: 1, A: 2, B: 3, N: 4, Text: "t", Names: []string{"a", "b"}}
	}
	for i, change := range []func(r *api.Reply){
		func(r *api.Reply) { r.E++ }, func(r *api.Reply) { r.A++ }, func(r *api.Reply) { r.B++ }, func(r *api.Reply) { r.N++ }, func(r *api.Reply) { r.Text = "" },
		func(r *api.Reply) { r.Names = nil }, func(r *api.Reply) { r.Names[1] = "c" }, func(r *api.Reply) { r.Names = r.Names[:1] }, func(r *api.Reply) { r.Names = append(r.Names, "") },
	} {
		r := one()
		if !ops.Same(r, one()) {
			t.Fatal("the same")
		}
		change(&r)
		if ops.Same(r, one()) || ops.Same(one(), r) {
			t.Error(i, r)
		}
	}
	if !ops.Same(api.Reply{}, api.Reply{Names: []string{}}) {
		t.Error("two lists without elements")
	}
}

func TestWhatFollows(t *testing.T) { // P11.4
	r := rand.New(rand.NewSource(12))
	names := []string{"a", "b", "c", ".."}
	looking := []int{api.CLook, api.CStat, api.CRead, api.CReadlnk, api.CReaddir, api.CStatfs}
	for range 40 {
		f := tree.New()
		begin := f
		for range 150 {
			c := api.Call{Kind: r.Intn(17), Ino: 1 + r.Intn(f.Next), To: 1 + r.Intn(f.Next), At: r.Intn(9) - 1, Many: r.Intn(9) - 1, Name: names[r.Intn(4)], Name2: names[r.Intn(4)], Text: long(r.Intn(4))}
			g, reply := ops.Do(f, c)
			if !tree.Right(g) {
				t.Fatal("not right behind", c)
			}
			if reply.E != api.OK && !ops.Same(reply, no(reply.E)) {
				t.Fatal("more than an error", c, reply)
			}
			if (reply.E != api.OK || slices.Contains(looking, c.Kind)) && !tree.Same(f, g) {
				t.Fatal("changed by", c)
			}
			if h := ops.Apply(f, ops.Changes(f, g), g.Next); !tree.Same(h, g) {
				t.Fatal("changes lead elsewhere", c)
			}
			f = g
		}
		if h := ops.Apply(begin, ops.Changes(begin, f), f.Next); !tree.Same(h, f) {
			t.Fatal("changes lead elsewhere")
		}
		if h := ops.Apply(f, ops.Changes(f, begin), begin.Next); len(ops.Changes(h, begin)) != 0 {
			t.Fatal("changes lead elsewhere")
		}
	}
}
