package store_test

import (
	"fmt"
	"math"
	"math/rand"
	"slices"
	"testing"

	"copyhold/api"
	"copyhold/node"
	"copyhold/store"
	"copyhold/tree"
)

func file(ino int, text string) api.Node {
	return api.Node{Ino: ino, Kind: api.File, Links: 1, Text: text}
}

// is is a version that is so, gone one that is gone.
func is(stamp int, n api.Node) api.Ver { return api.Ver{Stamp: stamp, Node: n} }
func gone(stamp int) api.Ver           { return api.Ver{Stamp: stamp, Gone: true} }

func chain(ino int, l ...api.Ver) api.Chain { return api.Chain{Ino: ino, L: l} }

// some has three chains, and counts, up to the stamp 9.
func some() api.Store {
	return api.Store{
		L: []api.Chain{
			chain(2, is(2, file(2, "a")), is(4, file(2, "b")), gone(6), is(8, file(2, "c"))),
			chain(3, is(3, file(3, "x"))),
			chain(7, is(5, file(7, "y")), gone(7)),
		},
		Nexts: []api.Count{{Stamp: 2, Next: 3}, {Stamp: 5, Next: 8}},
		Stamp: 9,
	}
}

// twin is a store in memory of its own.
func twin(s api.Store) api.Store {
	out := api.Store{Nexts: slices.Clone(s.Nexts), Stamp: s.Stamp}
	for _, c := range s.L {
		out.L = append(out.L, api.Chain{Ino: c.Ino, L: slices.Clone(c.L)})
	}
	return out
}

func TestNew(t *testing.T) { // P12.1
	s := store.New()
	want := api.Store{L: []api.Chain{chain(1, is(1, api.Node{Ino: 1, Kind: api.Dir}))}, Nexts: []api.Count{{Stamp: 1, Next: 2}}, Stamp: 1}
	if !store.Same(s, want) || !store.Right(s) || store.Many(s) != 1 {
		t.Error(s)
	}
	if f := store.View(s, 1); !tree.Same(f, tree.New()) {
		t.Error(f)
	}
	if f := store.View(s, 0); !tree.Same(f, api.FS{Next: 1}) {
		t.Error(f)
	}
}

func TestRight(t *testing.T) { // P12.1
	next := []api.Count{{Stamp: 1, Next: 1}}
	for i, s := range []api.Store{
		some(), store.New(), {Nexts: next, Stamp: 1}, {Nexts: next, Stamp: math.MaxInt},
		{L: []api.Chain{chain(1, gone(1)), chain(math.MaxInt, gone(5))}, Nexts: next, Stamp: 5},
		{L: []api.Chain{chain(4, gone(1), gone(2))}, Nexts: []api.Count{{Stamp: 1, Next: 9}, {Stamp: 5, Next: 1}}, Stamp: 5},
	} {
		if !store.Right(s) {
			t.Error(i, s)
		}
	}
	bad := file(4, "")
	bad.Links = 65
	for i, s := range []api.Store{
		{}, {Stamp: 1}, {Nexts: next}, {Nexts: next, Stamp: -1},
		{Nexts: []api.Count{{Stamp: 2, Next: 1}}, Stamp: 1}, {Nexts: []api.Count{{Stamp: 0, Next: 1}}, Stamp: 1}, {Nexts: []api.Count{{Stamp: 1, Next: 0}}, Stamp: 1},
		{Nexts: []api.Count{{Stamp: 1, Next: 1}, {Stamp: 1, Next: 2}}, Stamp: 1}, {Nexts: []api.Count{{Stamp: 2, Next: 1}, {Stamp: 1, Next: 2}}, Stamp: 5}, {Nexts: []api.Count{{Stamp: 1, Next: 1}, {Stamp: 3, Next: -2}}, Stamp: 3},
		{L: []api.Chain{chain(4)}, Nexts: next, Stamp: 1},
		{L: []api.Chain{chain(0, gone(1))}, Nexts: next, Stamp: 1}, {L: []api.Chain{chain(-4, gone(1))}, Nexts: next, Stamp: 1},
		{L: []api.Chain{chain(4, gone(1)), chain(4, gone(1))}, Nexts: next, Stamp: 1}, {L: []api.Chain{chain(5, gone(1)), chain(4, gone(1))}, Nexts: next, Stamp: 1},
		{L: []api.Chain{chain(4, gone(2))}, Nexts: next, Stamp: 1}, {L: []api.Chain{chain(4, gone(0))}, Nexts: next, Stamp: 1}, {L: []api.Chain{chain(4, gone(-1))}, Nexts: next, Stamp: 1},
		{L: []api.Chain{chain(4, gone(1), gone(1))}, Nexts: next, Stamp: 2}, {L: []api.Chain{chain(4, gone(2), gone(1))}, Nexts: next, Stamp: 2},
		{L: []api.Chain{chain(4, is(1, bad))}, Nexts: next, Stamp: 1}, {L: []api.Chain{chain(4, is(1, file(5, "")))}, Nexts: next, Stamp: 1}, {L: []api.Chain{chain(4, is(1, api.Node{}))}, Nexts: next, Stamp: 1},
		{L: []api.Chain{chain(4, api.Ver{Stamp: 1, Gone: true, Node: file(4, "")})}, Nexts: next, Stamp: 1}, {L: []api.Chain{chain(4, gone(1), is(2, file(3, "")))}, Nexts: next, Stamp: 2},
	} {
		if store.Right(s) {
			t.Error(i, s)
		}
	}
}

func TestView(t *testing.T) { // P12.1
	a, b, c, x, y := file(2, "a"), file(2, "b"), file(2, "c"), file(3, "x"), file(7, "y")
	for stamp, want := range map[int]api.FS{
		math.MinInt: {Next: 1}, 0: {Next: 1}, 1: {Next: 1}, 2: {L: []api.Node{a}, Next: 3}, 3: {L: []api.Node{a, x}, Next: 3}, 4: {L: []api.Node{b, x}, Next: 3},
		5: {L: []api.Node{b, x, y}, Next: 8}, 6: {L: []api.Node{x, y}, Next: 8}, 7: {L: []api.Node{x}, Next: 8}, 8: {L: []api.Node{c, x}, Next: 8}, 9: {L: []api.Node{c, x}, Next: 8}, math.MaxInt: {L: []api.Node{c, x}, Next: 8},
	} {
		if f := store.View(some(), stamp); !tree.Same(f, want) {
			t.Error(stamp, f)
		}
	}
	if n := store.Many(some()); n != 7 {
		t.Error(n)
	}
	if n := store.Many(api.Store{}); n != 0 {
		t.Error(n)
	}
}

func TestSame(t *testing.T) { // P12.1
	for i, change := range []func(s *api.Store){
		func(s *api.Store) { s.Stamp++ },
		func(s *api.Store) { s.Nexts[1].Next++ }, func(s *api.Store) { s.Nexts[0].Stamp-- }, func(s *api.Store) { s.Nexts = s.Nexts[:1] },
		func(s *api.Store) { s.L = s.L[:2] }, func(s *api.Store) { s.L[1].Ino++ }, func(s *api.Store) { s.L[0].L = s.L[0].L[:3] },
		func(s *api.Store) { s.L[0].L[1].Stamp-- }, func(s *api.Store) { s.L[0].L[2].Gone = false }, func(s *api.Store) { s.L[0].L[3].Node.Text = "" }, func(s *api.Store) { s.L = append(s.L, api.Chain{}) },
	} {
		s := some()
		if !store.Same(s, some()) {
			t.Fatal("the same")
		}
		change(&s)
		if store.Same(s, some()) || store.Same(some(), s) {
			t.Error(i, s)
		}
	}
	if !store.Same(api.Store{}, api.Store{L: []api.Chain{}, Nexts: []api.Count{}}) {
		t.Error("lists without elements")
	}
}

func TestSince(t *testing.T) { // P12.2
	for stamp, want := range map[int][]int{math.MinInt: {0, 2, 3, 7}, 0: {0, 2, 3, 7}, 2: {0, 2, 3, 7}, 3: {0, 2, 7}, 5: {0, 2, 7}, 6: {0, 2, 7}, 7: {0, 2}, 8: nil, 9: nil, math.MaxInt: nil} {
		if l := store.Since(some(), stamp); !slices.Equal(l, want) {
			t.Error(stamp, l)
		}
	}
	s := api.Store{L: []api.Chain{chain(4, gone(1))}, Nexts: []api.Count{{Stamp: 1, Next: 1}, {Stamp: 3, Next: 2}}, Stamp: 4}
	for stamp, want := range map[int][]int{0: {0, 4}, 1: {0}, 2: {0}, 3: nil} {
		if l := store.Since(s, stamp); !slices.Equal(l, want) {
			t.Error(stamp, l)
		}
	}
}

func TestInstall(t *testing.T) { // P12.2
	s := some()
	l := []api.Change{
		{Ino: 3, Gone: true}, {Ino: 5, Node: file(5, "new")}, {Ino: 2, Node: file(2, "first")}, {Ino: 2, Node: file(2, "last")},
		{Ino: 9, Node: file(1, "counts with its own")}, {Ino: 1, Gone: true, Node: file(1, "nothing")}, {Ino: 7, Node: file(7, "")}, {Ino: 7, Gone: true}, {Ino: 8, Gone: true}, {Ino: 8, Node: file(8, "is")},
	}
	want := api.Store{
		L: []api.Chain{
			chain(1, gone(10)),
			chain(2, is(2, file(2, "a")), is(4, file(2, "b")), gone(6), is(8, file(2, "c")), is(10, file(2, "last"))),
			chain(3, is(3, file(3, "x")), gone(10)),
			chain(5, is(10, file(5, "new"))),
			chain(7, is(5, file(7, "y")), gone(7), gone(10)),
			chain(8, is(10, file(8, "is"))),
			chain(9, is(10, file(9, "counts with its own"))),
		},
		Nexts: []api.Count{{Stamp: 2, Next: 3}, {Stamp: 5, Next: 8}, {Stamp: 10, Next: 11}},
		Stamp: 10,
	}
	if x := store.Install(s, l, 11); !store.Same(x, want) || !store.Right(x) {
		t.Error(x)
	}
	for _, next := range []int{8, 7, 0, -1, math.MinInt} {
		if x := store.Install(s, nil, next); !store.Same(x, api.Store{L: s.L, Nexts: s.Nexts, Stamp: 10}) {
			t.Error(next, x)
		}
	}
	if x := store.Install(s, nil, 9); !slices.Equal(x.Nexts, []api.Count{{Stamp: 2, Next: 3}, {Stamp: 5, Next: 8}, {Stamp: 10, Next: 9}}) || x.Stamp != 10 {
		t.Error(x)
	}
	if !store.Same(s, some()) {
		t.Error("what was handed in changed")
	}
}

func TestInstallGoesOnFromOne(t *testing.T) { // P12.2, P12.4
	s := store.New()
	for i := range 5 {
		s = store.Install(s, []api.Change{{Ino: 2, Node: file(2, fmt.Sprint(i))}}, 3+i)
	}
	one := store.Install(s, []api.Change{{Ino: 2, Node: file(2, "one")}, {Ino: 3, Node: file(3, "one")}}, 50)
	two := store.Install(s, []api.Change{{Ino: 2, Node: file(2, "two")}, {Ino: 4, Node: file(4, "two")}}, 60)
	if f := store.View(one, one.Stamp); !tree.Same(f, api.FS{L: []api.Node{tree.New().L[0], file(2, "one"), file(3, "one")}, Next: 50}) {
		t.Error(f)
	}
	if f := store.View(two, two.Stamp); !tree.Same(f, api.FS{L: []api.Node{tree.New().L[0], file(2, "two"), file(4, "two")}, Next: 60}) {
		t.Error(f)
	}
}

func TestSweep(t *testing.T) { // P12.3
	y := chain(7, is(5, file(7, "y")), gone(7))
	x, c := chain(3, is(3, file(3, "x"))), is(8, file(2, "c"))
	a, b := is(2, file(2, "a")), is(4, file(2, "b"))
	three, eight := api.Count{Stamp: 2, Next: 3}, api.Count{Stamp: 5, Next: 8}
	for i, z := range []struct {
		pins []int
		l    []api.Chain
		n    []api.Count
	}{
		{nil, []api.Chain{chain(2, c), x}, []api.Count{eight}},
		{[]int{0, 1, -5}, []api.Chain{chain(2, c), x}, []api.Count{eight}},
		{[]int{9, 99, math.MaxInt}, []api.Chain{chain(2, c), x}, []api.Count{eight}},
		{[]int{2}, []api.Chain{chain(2, a, c), x}, []api.Count{three, eight}},
		{[]int{3, 3, 2}, []api.Chain{chain(2, a, c), x}, []api.Count{three, eight}},
		{[]int{4}, []api.Chain{chain(2, b, c), x}, []api.Count{three, eight}},
		{[]int{5}, []api.Chain{chain(2, b, c), x, y}, []api.Count{eight}},
		{[]int{6}, []api.Chain{chain(2, c), x, y}, []api.Count{eight}},
		{[]int{7}, []api.Chain{chain(2, c), x}, []api.Count{eight}},
		{[]int{7, 4}, []api.Chain{chain(2, b, gone(6), c), x}, []api.Count{three, eight}},
		{[]int{6, 5, 4, 3, 2, 1}, []api.Chain{chain(2, a, b, gone(6), c), x, y}, []api.Count{three, eight}},
	} {
		pins := slices.Grow(slices.Clone(z.pins), 4)
		got := store.Sweep(some(), pins)
		if !store.Same(got, api.Store{L: z.l, Nexts: z.n, Stamp: 9}) || !store.Right(got) {
			t.Error(i, got)
		}
		if !slices.Equal(pins, z.pins) {
			t.Error("pins changed", pins)
		}
	}
	s := some()
	store.Sweep(s, []int{4})
	if !store.Same(s, some()) {
		t.Error("what was handed in changed")
	}
}

func TestWhatFollows(t *testing.T) { // P12.4
	r := rand.New(rand.NewSource(13))
	for range 100 {
		s := store.New()
		views := map[int]api.FS{0: store.View(s, 0), 1: store.View(s, 1)}
		alive := []int{0, 1}
		for range 40 {
			if r.Intn(4) == 0 {
				var pins []int
				for _, p := range alive {
					if r.Intn(3) == 0 {
						pins = append(pins, p)
					}
				}
				ahead := twin(s)
				x := store.Sweep(s, pins)
				if !store.Same(s, ahead) {
					t.Fatal("what was handed in changed")
				}
				s, alive = x, append(pins, s.Stamp)
			} else {
				var l []api.Change
				last := store.View(s, s.Stamp)
				for range r.Intn(4) {
					ino := 2 + r.Intn(6)
					if r.Intn(3) == 0 {
						l = append(l, api.Change{Ino: ino, Gone: true})
						last = tree.Out(last, ino)
					} else {
						n := file(ino, fmt.Sprint(r.Intn(100)))
						l = append(l, api.Change{Ino: ino, Node: n})
						next := last.Next
						last = tree.Put(last, n)
						last.Next = next
					}
				}
				next := r.Intn(40)
				last.Next = max(last.Next, next)
				s = store.Install(s, l, next)
				if f := store.View(s, s.Stamp); !tree.Same(f, last) {
					t.Fatal("what was installed isn't seen", f, last)
				}
				views[s.Stamp] = last
				alive = append(alive, s.Stamp)
			}
			if !store.Right(s) {
				t.Fatal("not right", s)
			}
			for _, stamp := range alive {
				if !tree.Same(store.View(s, stamp), views[stamp]) {
					t.Fatal("seen otherwise", stamp)
				}
			}
		}
	}
	if f := store.View(some(), 5); !node.Same(f.L[0], file(2, "b")) {
		t.Error(f)
	}
}
