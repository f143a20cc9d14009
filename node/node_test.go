package node_test

import (
	"fmt"
	"math"
	"math/rand"
	"strings"
	"testing"

	"copyhold/api"
	"copyhold/node"
	"copyhold/octet"
)

func number(n int) string { return octet.Num(octet.Fold(n)) }

// many are so many entries.
func many(n int) []api.Entry {
	var l []api.Entry
	for i := range n {
		l = append(l, api.Entry{Name: fmt.Sprintf("e%03d", i), Ino: i + 2})
	}
	return l
}

// rights are right nodes.
func rights() []api.Node {
	return []api.Node{
		{Ino: 1, Kind: api.Dir},
		{Ino: 1, Kind: api.File},
		{Ino: 9, Kind: api.Link, Links: 1, Text: "/a/b"},
		{Ino: math.MaxInt, Kind: api.File, Links: 64, Text: strings.Repeat("x", 4096)},
		{Ino: 5, Kind: api.Link, Links: 64, Text: strings.Repeat("\x00", 4096)},
		{Ino: 2, Kind: api.Dir, Links: 1, L: []api.Entry{{Name: "a", Ino: 3}, {Name: "b", Ino: math.MaxInt}}},
		{Ino: 2, Kind: api.Dir, Links: 64, L: many(256)},
		{Ino: 2, Kind: api.Dir, L: []api.Entry{{Name: strings.Repeat("n", 32), Ino: 2}}},
		{Ino: 300, Kind: api.File, Text: "\xff\x00"},
	}
}

// wrongs are nodes that aren't right.
func wrongs() []api.Node {
	return []api.Node{
		{},
		{Ino: 0, Kind: api.File},
		{Ino: -1, Kind: api.File},
		{Ino: math.MinInt, Kind: api.Dir},
		{Ino: 1, Kind: 0},
		{Ino: 1, Kind: 4},
		{Ino: 1, Kind: -1},
		{Ino: 1, Kind: api.File, Links: -1},
		{Ino: 1, Kind: api.File, Links: 65},
		{Ino: 1, Kind: api.Dir, Links: 65},
		{Ino: 1, Kind: api.Dir, Text: "x"},
		{Ino: 1, Kind: api.File, L: many(1)},
		{Ino: 1, Kind: api.Link, L: many(1)},
		{Ino: 1, Kind: api.Dir, L: []api.Entry{{Name: "b", Ino: 2}, {Name: "a", Ino: 2}}},
		{Ino: 1, Kind: api.Dir, L: []api.Entry{{Name: "a", Ino: 0}}},
		{Ino: 1, Kind: api.Dir, L: []api.Entry{{Name: "..", Ino: 1}}},
		{Ino: 1, Kind: api.Dir, L: []api.Entry{{Name: "", Ino: 1}}},
	}
}

func TestRight(t *testing.T) { // P7.1
	for i, n := range rights() {
		if !node.Right(n) {
			t.Error(i, n)
		}
	}
	for i, n := range append(wrongs(),
		api.Node{Ino: 1, Kind: api.File, Text: strings.Repeat("x", 4097)},
		api.Node{Ino: 1, Kind: api.Link, Text: strings.Repeat("x", 4097)},
		api.Node{Ino: 1, Kind: api.Dir, L: many(257)},
		api.Node{Ino: 1, Kind: api.Dir, L: []api.Entry{{Name: strings.Repeat("n", 33), Ino: 2}}},
		api.Node{Ino: 1, Kind: api.File, Links: math.MaxInt},
		api.Node{Ino: 1, Kind: math.MinInt},
	) {
		if node.Right(n) {
			t.Error(i, n)
		}
	}
}

func TestSize(t *testing.T) { // P7.1
	for i, x := range []struct {
		n    api.Node
		size int
	}{
		{api.Node{}, 0},
		{api.Node{Kind: api.File, Text: "abc"}, 3},
		{api.Node{Kind: api.Link, Text: "ab"}, 2},
		{api.Node{Kind: api.Dir, L: many(3)}, 3},
		{api.Node{Kind: api.Dir, Text: "abcd"}, 0},
		{api.Node{Kind: api.File, L: many(3)}, 0},
		{api.Node{Kind: 7, L: many(3), Text: "a"}, 1},
		{api.Node{Kind: api.Dir, L: many(300)}, 300},
	} {
		if n := node.Size(x.n); n != x.size {
			t.Error(i, n)
		}
	}
}

func TestSame(t *testing.T) { // P7.1
	one := api.Node{Ino: 1, Kind: 2, Links: 3, Text: "t", L: []api.Entry{{Name: "a", Ino: 1}, {Name: "b", Ino: 2}}}
	change := []func(n *api.Node){
		func(n *api.Node) { n.Ino++ },
		func(n *api.Node) { n.Kind++ },
		func(n *api.Node) { n.Links++ },
		func(n *api.Node) { n.Text = "u" },
		func(n *api.Node) { n.L = n.L[:1] },
		func(n *api.Node) { n.L = nil },
		func(n *api.Node) { n.L = append(n.L, api.Entry{}) },
		func(n *api.Node) { n.L[0].Name = "c" },
		func(n *api.Node) { n.L[1].Ino++ },
		func(n *api.Node) { n.L[0], n.L[1] = n.L[1], n.L[0] },
	}
	for i, f := range change {
		other := one
		other.L = append([]api.Entry(nil), one.L...)
		if !node.Same(one, other) || !node.Same(other, one) {
			t.Fatal("the same")
		}
		f(&other)
		if node.Same(one, other) || node.Same(other, one) {
			t.Error(i, other)
		}
	}
	if !node.Same(api.Node{}, api.Node{L: []api.Entry{}}) {
		t.Error("two lists without elements")
	}
}

func TestText(t *testing.T) { // P7.2
	for i, x := range []struct {
		n api.Node
		s string
	}{
		{api.Node{Ino: 1, Kind: api.Dir}, "\x02\x04\x00\x00\x00"},
		{api.Node{}, "\x00\x00\x00\x00\x00"},
		{api.Node{Ino: -1, Kind: -2, Links: 64, Text: "hi", L: []api.Entry{{Name: "a", Ino: 3}, {Name: "", Ino: -3}}}, "\x01\x03\x80\x01\x02hi\x02\x01a\x06\x00\x05"},
		{api.Node{Ino: 150, Kind: api.File, Links: 1, Text: "x"}, "\xac\x02\x02\x02\x01x\x00"},
	} {
		if s := node.Text(x.n); s != x.s {
			t.Errorf("%d: %x", i, s)
		}
	}
}

func TestTakeRefuses(t *testing.T) { // P7.2
	head := number(2) + number(api.Dir) + number(1)
	file := number(2) + number(api.File) + number(1)
	bad := "\x80\x00"
	for i, x := range []struct {
		s string
		e api.Errno
	}{
		{"", api.ErrMore},
		{number(2), api.ErrMore},
		{number(2) + number(1), api.ErrMore},
		{head, api.ErrMore},
		{head + "\x00", api.ErrMore},
		{head + "\x00\x01", api.ErrMore},
		{head + "\x00\x01\x01a", api.ErrMore},
		{head + "\x00\x01\x02a", api.ErrMore},
		{bad + head, api.ErrForm},
		{number(2) + bad, api.ErrForm},
		{number(0) + bad, api.ErrForm},
		{number(2) + number(1) + bad, api.ErrForm},
		{file + bad, api.ErrForm},
		{file + octet.Num(4097), api.ErrBig},
		{file + octet.Num(4096) + "x", api.ErrMore},
		{file + octet.Num(math.MaxUint64), api.ErrBig},
		{file + octet.Text("x") + bad, api.ErrForm},
		{head + "\x00" + octet.Num(257), api.ErrBig},
		{head + "\x00" + octet.Num(256), api.ErrMore},
		{head + "\x00" + octet.Num(math.MaxUint64), api.ErrBig},
		{head + "\x00\x01" + octet.Num(33), api.ErrBig},
		{head + "\x00\x01" + octet.Num(32), api.ErrMore},
		{head + "\x00\x01" + bad, api.ErrForm},
		{head + "\x00\x01" + octet.Text("a") + bad, api.ErrForm},
		{number(0) + number(9) + number(99) + octet.Text("x") + "\x01" + octet.Num(33), api.ErrBig},
		{number(0) + number(9) + number(99) + octet.Text("x") + "\x01", api.ErrMore},
	} {
		if n, rest, e := node.Take(x.s); e != x.e || rest != "" || !node.Same(n, api.Node{}) {
			t.Errorf("%d: %v %q %d, not %d", i, n, rest, e, x.e)
		}
	}
	for i, w := range wrongs() {
		if n, rest, e := node.Take(node.Text(w) + "z"); e != api.ErrForm || rest != "" || !node.Same(n, api.Node{}) {
			t.Errorf("%d: %v %q %d", i, n, rest, e)
		}
	}
}

func TestToldIsTaken(t *testing.T) { // P7.2, P7.3
	r := rand.New(rand.NewSource(8))
	for i, n := range rights() {
		s := node.Text(n)
		for _, z := range []string{"", "z", "\x00", "\xff\xff", s} {
			if m, rest, e := node.Take(s + z); e != api.OK || rest != z || !node.Same(m, n) {
				t.Errorf("%d: %v %q %d", i, m, rest, e)
			}
		}
		for range 50 {
			j := r.Intn(len(s))
			if m, rest, e := node.Take(s[:j]); e != api.ErrMore || rest != "" || !node.Same(m, api.Node{}) {
				t.Errorf("%d up to %d: %v %q %d", i, j, m, rest, e)
			}
		}
	}
}
