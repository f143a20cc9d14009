package net_test

import (
	"fmt"
	"math"
	"math/rand"
	"slices"
	"testing"

	"copyhold/api"
	"copyhold/net"
)

// some has three texts up, two down.
func some() api.Net {
	return api.Net{Up: []string{"a", "bc", ""}, Down: []string{"x", "\x00\xff"}}
}

// flipped is a net with its rows changed for each other.
func flipped(n api.Net) api.Net { return api.Net{Up: n.Down, Down: n.Up} }

// full has so many texts up.
func full(many int) api.Net {
	n := api.Net{Down: []string{"down"}}
	for i := range many {
		n.Up = append(n.Up, fmt.Sprint(i))
	}
	return n
}

func TestSend(t *testing.T) { // P19.1
	n := some()
	if x := net.Send(n, true, "new"); !net.Same(x, api.Net{Up: []string{"a", "bc", "", "new"}, Down: n.Down}) {
		t.Error(x)
	}
	if x := net.Send(n, false, ""); !net.Same(x, api.Net{Up: n.Up, Down: []string{"x", "\x00\xff", ""}}) {
		t.Error(x)
	}
	if x := net.Send(api.Net{}, true, "a"); !net.Same(x, api.Net{Up: []string{"a"}}) {
		t.Error(x)
	}
	for many, room := range map[int]bool{63: true, 64: false, 65: false, 100: false} {
		x := net.Send(full(many), true, "new")
		y := flipped(net.Send(flipped(full(many)), false, "new"))
		if room && (len(x.Up) != many+1 || x.Up[many] != "new") || !room && !net.Same(x, full(many)) || !net.Same(x, y) {
			t.Error(many, x)
		}
		if z := net.Send(full(many), false, "new"); !slices.Equal(z.Down, []string{"down", "new"}) {
			t.Error(many, z)
		}
	}
	if !net.Same(n, some()) {
		t.Error("what was handed in changed")
	}
	roomy := api.Net{Up: slices.Grow([]string{"a"}, 5)}
	one := net.Send(roomy, true, "one")
	net.Send(roomy, true, "two")
	if one.Up[1] != "one" {
		t.Error("two that go on from one disturb each other")
	}
}

func TestTake(t *testing.T) { // P19.1
	n := some()
	for i, s := range n.Up {
		x, m, ok := net.Take(n, true, i)
		if !ok || x != s || !net.Same(m, api.Net{Up: slices.Delete(slices.Clone(n.Up), i, i+1), Down: n.Down}) {
			t.Error(i, x, m, ok)
		}
		y, k, ok := net.Take(flipped(n), false, i)
		if !ok || y != s || !net.Same(flipped(k), m) {
			t.Error(i, y, k, ok)
		}
	}
	for _, i := range []int{-1, 3, math.MaxInt, math.MinInt} {
		if x, m, ok := net.Take(n, true, i); ok || x != "" || !net.Same(m, n) {
			t.Error(i, x, m, ok)
		}
	}
	for _, i := range []int{-1, 2} {
		if x, m, ok := net.Take(n, false, i); ok || x != "" || !net.Same(m, n) {
			t.Error(i, x, m, ok)
		}
	}
	if !net.Same(n, some()) {
		t.Error("what was handed in changed")
	}
	n = net.Send(net.Send(api.Net{}, true, "a"), true, "b")
	b, n, _ := net.Take(n, true, 1)
	a, n, _ := net.Take(n, true, 0)
	if a != "a" || b != "b" || net.Many(n) != 0 {
		t.Error(a, b, n)
	}
	if x, m, ok := net.Take(full(100), true, 99); !ok || x != "99" || len(m.Up) != 99 {
		t.Error(x, ok)
	}
}

func TestManySame(t *testing.T) { // P19.1
	for many, n := range map[int]api.Net{0: {}, 5: some(), 101: full(100)} {
		if net.Many(n) != many || net.Many(flipped(n)) != many {
			t.Error(many, net.Many(n))
		}
	}
	for i, change := range []func(n *api.Net){func(n *api.Net) { n.Up[1] = "x" }, func(n *api.Net) { n.Down[0] = "" }, func(n *api.Net) { n.Up = nil }, func(n *api.Net) { n.Down = n.Down[:1] }, func(n *api.Net) { *n = flipped(*n) }, func(n *api.Net) { slices.Reverse(n.Up) }} {
		n := some()
		if !net.Same(n, some()) {
			t.Fatal("the same")
		}
		change(&n)
		if net.Same(n, some()) || net.Same(some(), n) {
			t.Error(i, n)
		}
	}
	if !net.Same(api.Net{}, api.Net{Up: []string{}, Down: []string{}}) {
		t.Error("lists without elements")
	}
}

func TestTwice(t *testing.T) { // P19.2
	n := some()
	for i, s := range n.Up {
		if m, ok := net.Twice(n, true, i); !ok || !net.Same(m, api.Net{Up: []string{"a", "bc", "", s}, Down: n.Down}) {
			t.Error(i, m, ok)
		}
		if m, ok := net.Twice(flipped(n), false, i); !ok || !net.Same(m, api.Net{Up: n.Down, Down: []string{"a", "bc", "", s}}) {
			t.Error(i, m, ok)
		}
	}
	for _, i := range []int{-1, 3, math.MaxInt, math.MinInt} {
		if m, ok := net.Twice(n, true, i); ok || !net.Same(m, n) {
			t.Error(i, m, ok)
		}
	}
	for many, room := range map[int]bool{63: true, 64: false, 65: false} {
		if m, ok := net.Twice(full(many), true, 0); ok != room || room && (len(m.Up) != 64 || m.Up[63] != "0") || !room && !net.Same(m, full(many)) {
			t.Error(many, ok)
		}
		if _, ok := net.Twice(full(many), false, 0); !ok {
			t.Error(many, ok)
		}
	}
	if !net.Same(n, some()) {
		t.Error("what was handed in changed")
	}
}

func TestSpoil(t *testing.T) { // P19.2
	n := some()
	if m, ok := net.Spoil(n, true, 1, 0, 0x21); !ok || !net.Same(m, api.Net{Up: []string{"a", "Cc", ""}, Down: n.Down}) {
		t.Error(m, ok)
	}
	if m, ok := net.Spoil(n, true, 1, 1, 0xff); !ok || !net.Same(m, api.Net{Up: []string{"a", "b\x9c", ""}, Down: n.Down}) {
		t.Error(m, ok)
	}
	if m, ok := net.Spoil(n, false, 1, 1, 0xf0); !ok || !net.Same(m, api.Net{Up: n.Up, Down: []string{"x", "\x00\x0f"}}) {
		t.Error(m, ok)
	}
	if m, ok := net.Spoil(n, true, 0, 0, 0); !ok || !net.Same(m, n) {
		t.Error(m, ok)
	}
	for _, x := range [][2]int{{-1, 0}, {3, 0}, {0, 1}, {0, -1}, {2, 0}, {math.MaxInt, 0}, {0, math.MaxInt}, {0, math.MinInt}, {math.MinInt, math.MinInt}} {
		if m, ok := net.Spoil(n, true, x[0], x[1], 1); ok || !net.Same(m, n) {
			t.Error(x, m, ok)
		}
	}
	if !net.Same(n, some()) {
		t.Error("what was handed in changed")
	}
}

func TestWhatFollows(t *testing.T) { // P19.3
	r := rand.New(rand.NewSource(21))
	for range 100 {
		var n api.Net
		rows := map[bool][]string{}
		for i := range 200 {
			up := r.Intn(2) == 0
			if r.Intn(5) < 3 {
				s := fmt.Sprint("text ", i)
				n = net.Send(n, up, s)
				if len(rows[up]) < 64 {
					rows[up] = append(rows[up], s)
				}
			} else {
				j := r.Intn(len(rows[up]) + 1)
				s, m, ok := net.Take(n, up, j)
				if ok != (j < len(rows[up])) || ok && s != rows[up][j] {
					t.Fatal(s, ok)
				}
				if n = m; ok {
					rows[up] = slices.Delete(rows[up], j, j+1)
				}
			}
			if !slices.Equal(n.Up, rows[true]) || !slices.Equal(n.Down, rows[false]) || net.Many(n) != len(rows[true])+len(rows[false]) {
				t.Fatal(n, rows)
			}
		}
	}
}
