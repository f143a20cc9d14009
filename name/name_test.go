package name_test

import (
	"fmt"
	"math"
	"math/rand"
	"slices"
	"strings"
	"testing"

	"copyhold/api"
	"copyhold/name"
)

// row are entries of names, numbered from 10 on.
func row(names ...string) []api.Entry {
	var l []api.Entry
	for i, s := range names {
		l = append(l, api.Entry{Name: s, Ino: 10 + i})
	}
	return l
}

// full is a row of many entries.
func full(many int) []api.Entry {
	var l []api.Entry
	for i := range many {
		l = append(l, api.Entry{Name: fmt.Sprintf("n%04d", i), Ino: i + 1})
	}
	return l
}

func TestCheck(t *testing.T) { // P6.1
	for _, s := range []string{"a", "...", ".a", "..a", "a.", " ", "\x01", "\xff", "\n", "é", strings.Repeat("x", 32), strings.Repeat(".", 32), "\\"} {
		if e := name.Check(s); e != api.OK {
			t.Errorf("Check(%q): %d", s, e)
		}
	}
	for _, s := range []string{"", ".", "..", "/", "a/", "/a", "a/b", "\x00", "a\x00", "\x00a", strings.Repeat("x", 33), strings.Repeat("x", 32) + "/", strings.Repeat("é", 17)} {
		if e := name.Check(s); e != api.ErrName {
			t.Errorf("Check(%q): %d", s, e)
		}
	}
}

func TestRight(t *testing.T) { // P6.1
	for i, l := range [][]api.Entry{nil, {}, row("a"), row("a", "aa", "ab", "b"), row("A", "a"), row("a", "\xff"), row("a", "a\x01"), full(256)} {
		if !name.Right(l) {
			t.Error(i, l)
		}
	}
	for i, l := range [][]api.Entry{row("a", "a"), row("b", "a"), row("aa", "a"), row("\xff", "a"), row("a", "c", "b"), row("."), row(""), row("a", "b/"), {{Name: "a", Ino: 0}}, {{Name: "a", Ino: -1}}, {{Name: "a", Ino: 1}, {Name: "b", Ino: math.MinInt}}, full(257)} {
		if name.Right(l) {
			t.Error(i, l)
		}
	}
	if !name.Right([]api.Entry{{Name: "a", Ino: 1}, {Name: "b", Ino: 1}, {Name: "c", Ino: math.MaxInt}}) {
		t.Error("numbers need not differ")
	}
}

func TestFindAndNames(t *testing.T) { // P6.1
	l := row("a", "aa", "b", "c\xff")
	for i, s := range []string{"a", "aa", "b", "c\xff"} {
		if ino, ok := name.Find(l, s); ino != 10+i || !ok {
			t.Error(s, ino, ok)
		}
	}
	for _, s := range []string{"", "A", "ab", "c", "d", "..", "a\x00", "\xff"} {
		if ino, ok := name.Find(l, s); ino != 0 || ok {
			t.Error(s, ino, ok)
		}
	}
	if ino, ok := name.Find(nil, "a"); ino != 0 || ok {
		t.Error(ino, ok)
	}
	if x := name.Names(l); !slices.Equal(x, []string{"a", "aa", "b", "c\xff"}) {
		t.Error(x)
	}
	if x := name.Names(nil); len(x) != 0 {
		t.Error(x)
	}
}

func TestEnter(t *testing.T) { // P6.2
	l := row("b", "d")
	for _, x := range []struct {
		s    string
		want []api.Entry
	}{
		{"a", []api.Entry{{Name: "a", Ino: 7}, {Name: "b", Ino: 10}, {Name: "d", Ino: 11}}},
		{"c", []api.Entry{{Name: "b", Ino: 10}, {Name: "c", Ino: 7}, {Name: "d", Ino: 11}}},
		{"bb", []api.Entry{{Name: "b", Ino: 10}, {Name: "bb", Ino: 7}, {Name: "d", Ino: 11}}},
		{"e", []api.Entry{{Name: "b", Ino: 10}, {Name: "d", Ino: 11}, {Name: "e", Ino: 7}}},
	} {
		if m, e := name.Enter(l, x.s, 7); e != api.OK || !slices.Equal(m, x.want) {
			t.Error(x.s, m, e)
		}
	}
	roomy := slices.Grow(slices.Clone(l), 10)
	one, _ := name.Enter(roomy, "x", 1)
	two, _ := name.Enter(roomy, "y", 2)
	if !slices.Equal(roomy, l) || one[2].Name != "x" || two[2].Name != "y" {
		t.Error("two that go on from one disturb each other")
	}
	for _, x := range []struct {
		l   []api.Entry
		s   string
		ino int
		e   api.Errno
	}{
		{l, "..", 0, api.ErrName}, {l, "", 1, api.ErrName}, {full(256), "/", 0, api.ErrName},
		{l, "b", 0, api.ErrArg}, {l, "a", 0, api.ErrArg}, {full(256), "n0003", -1, api.ErrArg}, {l, "a", math.MinInt, api.ErrArg},
		{l, "b", 10, api.ErrThere}, {l, "d", 1, api.ErrThere}, {full(256), "n0255", 1, api.ErrThere},
		{full(256), "new", 1, api.ErrRoom}, {full(256), "a", 1, api.ErrRoom},
	} {
		if m, e := name.Enter(x.l, x.s, x.ino); e != x.e || !slices.Equal(m, x.l) {
			t.Error(len(x.l), x.s, x.ino, e)
		}
	}
	if m, e := name.Enter(full(255), "zz", 1); e != api.OK || len(m) != 256 || !name.Right(m) {
		t.Error(len(m), e)
	}
	if m, e := name.Enter(nil, "a", math.MaxInt); e != api.OK || !slices.Equal(m, []api.Entry{{Name: "a", Ino: math.MaxInt}}) {
		t.Error(m, e)
	}
}

func TestLeave(t *testing.T) { // P6.2
	l := row("a", "b", "c")
	for i, s := range []string{"a", "b", "c"} {
		want := slices.Delete(slices.Clone(l), i, i+1)
		if m, ino, e := name.Leave(l, s); e != api.OK || ino != 10+i || !slices.Equal(m, want) {
			t.Error(s, m, ino, e)
		}
	}
	for _, s := range []string{"", "aa", "..", "d", "A"} {
		if m, ino, e := name.Leave(l, s); e != api.ErrNone || ino != 0 || !slices.Equal(m, l) {
			t.Error(s, m, ino, e)
		}
	}
	if !slices.Equal(l, row("a", "b", "c")) {
		t.Error("what was handed in changed")
	}
	if m, ino, e := name.Leave(nil, "a"); e != api.ErrNone || ino != 0 || len(m) != 0 {
		t.Error(m, ino, e)
	}
}

func TestSplit(t *testing.T) { // P6.3
	long := strings.Repeat("x", 32)
	for path, want := range map[string][]string{
		"/": nil, "//": nil, "/.": nil, "/./": nil, "/././/": nil,
		"/a": {"a"}, "/a/": {"a"}, "//a": {"a"}, "/a//b/.": {"a", "b"}, "/b/a": {"b", "a"}, "/./a/./b": {"a", "b"}, "/a/a": {"a", "a"},
		"/...": {"..."}, "/.a/b.": {".a", "b."}, "/" + long + "/y": {long, "y"}, "/ ": {" "},
	} {
		if l, e := name.Split(path); e != api.OK || !slices.Equal(l, want) {
			t.Errorf("Split(%q): %q %d", path, l, e)
		}
	}
	for _, path := range []string{"", "a", "a/b", "./a", ".", "\x00/", " /a", "/..", "/a/..", "/../a", "/a/../b", "/a\x00", "/a/" + long + "x", "/\x00/b"} {
		if l, e := name.Split(path); e != api.ErrName || len(l) != 0 {
			t.Errorf("Split(%q): %q %d", path, l, e)
		}
	}
}

func TestWhatFollows(t *testing.T) { // P6.4
	r := rand.New(rand.NewSource(7))
	some := func() string {
		b := make([]byte, 1+r.Intn(3))
		for i := range b {
			b[i] = "ab.\xff"[r.Intn(4)]
		}
		return string(b)
	}
	for range 300 {
		var l []api.Entry
		have := map[string]int{}
		for range 30 {
			s, ino := some(), 1+r.Intn(9)
			m, e := name.Enter(l, s, ino)
			_, was := have[s]
			switch {
			case name.Check(s) != api.OK:
				if e != api.ErrName {
					t.Fatal(s, e)
				}
				continue
			case was:
				if e != api.ErrThere {
					t.Fatal(s, e)
				}
				m, x, e := name.Leave(l, s)
				if e != api.OK || x != have[s] {
					t.Fatal(s, x, e)
				}
				l = m
				delete(have, s)
			default:
				back, x, f := name.Leave(m, s)
				if e != api.OK || f != api.OK || x != ino || !slices.Equal(back, l) {
					t.Fatal(s, e, f)
				}
				l = m
				have[s] = ino
			}
			if !name.Right(l) || len(l) != len(have) {
				t.Fatal(l)
			}
			for s, ino := range have {
				if x, ok := name.Find(l, s); x != ino || !ok {
					t.Fatal(s, x, ok)
				}
			}
		}
	}
}
