package trans_test

import (
	"math"
	"math/rand"
	"slices"
	"strings"
	"testing"

	"copyhold/api"
	"copyhold/ops"
	"copyhold/store"
	"copyhold/trans"
	"copyhold/tree"
)

var (
	createA = api.Call{Kind: api.CCreate, Ino: 1, Name: "a"}
	createB = api.Call{Kind: api.CCreate, Ino: 1, Name: "b"}
)

// begun is a store with /d (2), /d/f (3, also /g), /x (4), begun at the stamp 2.
func begun(t *testing.T) api.Store {
	t.Helper()
	s, l := trans.Run(store.New(), []api.Call{
		{Kind: api.CMkdir, Ino: 1, Name: "d"}, {Kind: api.CCreate, Ino: 2, Name: "f"}, {Kind: api.CLink, Ino: 1, Name: "g", To: 3},
		{Kind: api.CCreate, Ino: 1, Name: "x"}, {Kind: api.CWrite, Ino: 4, Text: "text"},
	})
	for _, r := range l {
		if r.E != api.OK {
			t.Fatal(l)
		}
	}
	if s.Stamp != 2 {
		t.Fatal(s.Stamp)
	}
	return s
}

// steps does calls.
func steps(x api.Txn, l ...api.Call) api.Txn {
	for _, c := range l {
		x, _ = trans.Step(x, c)
	}
	return x
}

func TestBegin(t *testing.T) { // P13.1
	s := begun(t)
	x := trans.Begin(s)
	last := store.View(s, 2)
	if x.Stamp != 2 || !tree.Same(x.Was, last) || !tree.Same(x.Now, last) || len(x.Looks) != 0 || !trans.Right(x) {
		t.Error(x)
	}
	if x := trans.Begin(store.New()); !trans.Same(x, api.Txn{Stamp: 1, Was: tree.New(), Now: tree.New()}) {
		t.Error(x)
	}
}

func TestRight(t *testing.T) { // P13.1
	f := tree.New()
	more := f
	more.Next = 9
	bad := api.FS{Next: 2}
	for i, x := range []api.Txn{{Stamp: 1, Was: f, Now: f}, {Stamp: math.MaxInt, Was: f, Now: more, Looks: []int{0}}, {Stamp: 1, Was: f, Now: f, Looks: []int{0, 1, 5, math.MaxInt}}, {Stamp: 2, Was: f, Now: f, Looks: []int{7}}} {
		if !trans.Right(x) {
			t.Error(i, x)
		}
	}
	for i, x := range []api.Txn{
		{}, {Was: f, Now: f}, {Stamp: -1, Was: f, Now: f}, {Stamp: 1, Now: f}, {Stamp: 1, Was: f}, {Stamp: 1, Was: bad, Now: f}, {Stamp: 1, Was: f, Now: bad}, {Stamp: 1, Was: more, Now: f},
		{Stamp: 1, Was: f, Now: f, Looks: []int{-1}}, {Stamp: 1, Was: f, Now: f, Looks: []int{-1, 0}}, {Stamp: 1, Was: f, Now: f, Looks: []int{0, 0}}, {Stamp: 1, Was: f, Now: f, Looks: []int{1, 1}}, {Stamp: 1, Was: f, Now: f, Looks: []int{1, 3, 2}},
	} {
		if trans.Right(x) {
			t.Error(i, x)
		}
	}
}

func TestTouch(t *testing.T) { // P13.1
	f := store.View(begun(t), 2)
	for i, x := range []struct {
		c api.Call
		l []int
	}{
		{api.Call{Kind: api.CLook, Ino: 1, Name: "d"}, []int{1, 2}},
		{api.Call{Kind: api.CLook, Ino: 1, Name: "none"}, []int{1}},
		{api.Call{Kind: api.CStat, Ino: 3, To: -9}, []int{3}},
		{api.Call{Kind: api.CRead, Ino: 4, Name: "d"}, []int{4}},
		{api.Call{Kind: api.CWrite, Ino: 4, To: 99}, []int{4, 99}},
		{api.Call{Kind: api.CCut, Ino: -1}, nil},
		{api.Call{Kind: api.CCreate, Ino: 1, Name: "new"}, []int{0, 1}},
		{api.Call{Kind: api.CCreate, Ino: 2, Name: "f"}, []int{0, 2, 3}},
		{api.Call{Kind: api.CMkdir, Ino: 1, Name: "new"}, []int{0, 1}},
		{api.Call{Kind: api.CSymlink, Ino: -1, Name: "new"}, []int{0}},
		{api.Call{Kind: api.CRemove, Ino: 1, Name: "g"}, []int{1, 3}},
		{api.Call{Kind: api.CRmdir, Ino: 1, Name: "d"}, []int{1, 2}},
		{api.Call{Kind: api.CLink, Ino: 2, Name: "new", To: 4}, []int{2, 4}},
		{api.Call{Kind: api.CRename, Ino: 1, Name: "x", To: 2, Name2: "f"}, []int{0, 1, 2, 3, 4}},
		{api.Call{Kind: api.CReadlnk, Ino: 3}, []int{3}},
		{api.Call{Kind: api.CReaddir, Ino: 2}, []int{2}},
		{api.Call{Kind: api.CStatfs, Ino: 1, To: 2}, []int{0}},
		{api.Call{Kind: 0, Ino: 1, Name: "d"}, []int{1, 2}},
		{api.Call{Kind: 99}, nil},
	} {
		if l := trans.Touch(f, x.c); !slices.Equal(l, x.l) {
			t.Error(i, l)
		}
	}
}

func TestStep(t *testing.T) { // P13.1
	s := begun(t)
	x := trans.Begin(s)
	y, r := trans.Step(x, api.Call{Kind: api.CRename, Ino: 1, Name: "x", To: 2, Name2: "y"})
	now, _ := ops.Do(x.Now, api.Call{Kind: api.CRename, Ino: 1, Name: "x", To: 2, Name2: "y"})
	if r.E != api.OK || !trans.Same(y, api.Txn{Stamp: 2, Was: x.Was, Now: now, Looks: []int{0, 1, 2, 4}}) {
		t.Error(y, r)
	}
	// What is looked at is that of the file system as it was ahead: /d/y is there now.
	z, r := trans.Step(y, api.Call{Kind: api.CRead, Ino: 4, Many: 9})
	if r.Text != "text" || !slices.Equal(z.Looks, []int{0, 1, 2, 4}) || !tree.Same(z.Now, now) {
		t.Error(z, r)
	}
	z, r = trans.Step(trans.Begin(s), api.Call{Kind: api.CRemove, Ino: 2, Name: "f"})
	if r.E != api.OK || !slices.Equal(z.Looks, []int{2, 3}) {
		t.Error(z, r)
	}
	z, r = trans.Step(z, api.Call{Kind: api.CLook, Ino: 2, Name: "f"})
	if r.E != api.ErrNone || !slices.Equal(z.Looks, []int{2, 3}) {
		t.Error(z, r)
	}
	z, r = trans.Step(trans.Begin(s), api.Call{Kind: api.CRmdir, Ino: 1, Name: "d"})
	if r.E != api.ErrFull || !tree.Same(z.Now, z.Was) || !slices.Equal(z.Looks, []int{1, 2}) {
		t.Error(z, r)
	}
	if len(x.Looks) != 0 || !trans.Same(x, trans.Begin(s)) {
		t.Error("what was handed in changed")
	}
	base := steps(trans.Begin(s), api.Call{Kind: api.CStat, Ino: 1}, api.Call{Kind: api.CStat, Ino: 2}, api.Call{Kind: api.CStat, Ino: 9})
	one := steps(base, api.Call{Kind: api.CStat, Ino: 3})
	steps(base, api.Call{Kind: api.CStat, Ino: 4})
	if !slices.Equal(one.Looks, []int{1, 2, 3, 9}) {
		t.Error("two that go on from one disturb each other", one.Looks)
	}
}

func TestSame(t *testing.T) { // P13.1
	one := func() api.Txn {
		return api.Txn{Stamp: 2, Was: tree.New(), Now: api.FS{L: tree.New().L, Next: 3}, Looks: []int{0, 4}}
	}
	for i, change := range []func(x *api.Txn){
		func(x *api.Txn) { x.Stamp++ }, func(x *api.Txn) { x.Was.Next++ }, func(x *api.Txn) { x.Now.Next++ }, func(x *api.Txn) { x.Now.L = nil }, func(x *api.Txn) { x.Looks = nil }, func(x *api.Txn) { x.Looks[1] = 5 }, func(x *api.Txn) { x.Looks = append(x.Looks, 9) },
	} {
		x := one()
		if !trans.Same(x, one()) {
			t.Fatal("the same")
		}
		change(&x)
		if trans.Same(x, one()) || trans.Same(one(), x) {
			t.Error(i, x)
		}
	}
	if !trans.Same(api.Txn{}, api.Txn{Looks: []int{}}) {
		t.Error("lists without elements")
	}
}

func TestIdle(t *testing.T) { // P13.2
	s := begun(t)
	x := trans.Begin(s)
	for i, y := range []api.Txn{x, steps(x, api.Call{Kind: api.CRead, Ino: 4, Many: 3}), steps(x, api.Call{Kind: api.CRmdir, Ino: 1, Name: "d"}), steps(x, api.Call{Kind: api.CWrite, Ino: 4, Text: "X"}, api.Call{Kind: api.CWrite, Ino: 4, Text: "t"}), steps(x, api.Call{Kind: api.CStatfs})} {
		if !trans.Idle(y) {
			t.Error(i)
		}
	}
	for i, y := range []api.Txn{steps(x, createA), steps(x, createA, api.Call{Kind: api.CRemove, Ino: 1, Name: "a"}), steps(x, api.Call{Kind: api.CWrite, Ino: 4, Text: "X"}), steps(x, api.Call{Kind: api.CRemove, Ino: 1, Name: "x"})} {
		if trans.Idle(y) {
			t.Error(i)
		}
	}
}

func TestClash(t *testing.T) { // P13.2
	s := begun(t)
	x := trans.Begin(s)
	write, _ := trans.Run(s, []api.Call{{Kind: api.CWrite, Ino: 4, Text: "other"}})
	create, _ := trans.Run(s, []api.Call{createA})
	gone, _ := trans.Run(s, []api.Call{createA, {Kind: api.CRemove, Ino: 1, Name: "a"}})
	none, _ := trans.Run(s, []api.Call{{Kind: api.CRead, Ino: 4}})
	for i, z := range []struct {
		s     api.Store
		c     api.Call
		clash bool
	}{
		{s, createA, false}, {none, createA, false}, {none, api.Call{Kind: api.CStatfs}, false},
		{write, api.Call{Kind: api.CRead, Ino: 4}, true}, {write, api.Call{Kind: api.CLook, Ino: 1, Name: "x"}, true}, {write, api.Call{Kind: api.CRead, Ino: 3}, false}, {write, api.Call{Kind: api.CLook, Ino: 1, Name: "d"}, false},
		{write, createA, true}, {write, api.Call{Kind: api.CStatfs}, true}, {write, api.Call{Kind: api.CRename, Ino: 1, Name: "d", To: 1, Name2: "e"}, true},
		{create, api.Call{Kind: api.CLook, Ino: 1, Name: "d"}, true}, {create, api.Call{Kind: api.CRead, Ino: 4}, false}, {create, api.Call{Kind: api.CStat, Ino: 5}, true}, {create, createB, true},
		{gone, createB, true}, {gone, api.Call{Kind: api.CStatfs}, true}, {gone, api.Call{Kind: api.CLook, Ino: 1, Name: "d"}, false},
	} {
		if x := trans.Clash(z.s, steps(x, z.c)); x != z.clash {
			t.Error(i, x)
		}
	}
	if trans.Clash(write, x) {
		t.Error("one that looked at nothing clashes")
	}
}

func TestCommit(t *testing.T) { // P13.2
	s := begun(t)
	x := trans.Begin(s)
	mine := steps(x, api.Call{Kind: api.CWrite, Ino: 4, Text: "mine"}, createA)
	after, e := trans.Commit(s, mine)
	if e != api.OK || !store.Same(after, store.Install(s, ops.Changes(mine.Was, mine.Now), mine.Now.Next)) || after.Stamp != 3 || !tree.Same(store.View(after, 3), mine.Now) {
		t.Error(after, e)
	}
	if y, e := trans.Commit(after, steps(x, createB)); e != api.ErrAgain || !store.Same(y, after) {
		t.Error("two that create", e)
	}
	for i, c := range []api.Call{{Kind: api.CRead, Ino: 4}, {Kind: api.CStatfs}, {Kind: api.CRmdir, Ino: 1, Name: "d"}} {
		if y, e := trans.Commit(after, steps(x, c)); e != api.OK || !store.Same(y, after) {
			t.Error(i, "an idle one", e)
		}
	}
	// Beside each other: one writes what the other one didn't look at.
	y, e := trans.Commit(after, steps(x, api.Call{Kind: api.CWrite, Ino: 3, Text: "beside"}))
	if e != api.OK || y.Stamp != 4 {
		t.Fatal(y, e)
	}
	f := store.View(y, 4)
	for ino, text := range map[int]string{3: "beside", 4: "mine"} {
		if n, ok := tree.Find(f, ino); !ok || n.Text != text {
			t.Error(n)
		}
	}
	// What changed nothing but the next number is no idle one.
	if y, e := trans.Commit(s, steps(x, createA, api.Call{Kind: api.CRemove, Ino: 1, Name: "a"})); e != api.OK || y.Stamp != 3 || store.View(y, 3).Next != 6 {
		t.Error(y, e)
	}
}

func TestRun(t *testing.T) { // P13.2
	s, l := trans.Run(store.New(), []api.Call{createA})
	if s.Stamp != 2 || len(l) != 1 || !ops.Same(l[0], api.Reply{A: 2}) {
		t.Error(s, l)
	}
	s, l = trans.Run(s, []api.Call{createA, {Kind: api.CLook, Ino: 1, Name: "a"}, {Kind: 55}})
	if s.Stamp != 2 || len(l) != 3 || l[0].E != api.ErrThere || l[1].A != 2 || l[2].E != api.ErrArg {
		t.Error(s, l)
	}
	if x, l := trans.Run(s, nil); !store.Same(x, s) || len(l) != 0 {
		t.Error(x, l)
	}
}

func TestWhatFollows(t *testing.T) { // P13.3
	r := rand.New(rand.NewSource(14))
	names := []string{"a", "b", "c"}
	type under struct {
		x       api.Txn
		calls   []api.Call
		replies []api.Reply
	}
	commits, refused := 0, 0
	for range 60 {
		s, _ := trans.Run(store.New(), []api.Call{{Kind: api.CMkdir, Ino: 1, Name: "a"}, {Kind: api.CCreate, Ino: 2, Name: "b"}, {Kind: api.CCreate, Ino: 1, Name: "c"}, {Kind: api.CMkdir, Ino: 1, Name: "b"}})
		var open []under
		for range 120 {
			if len(open) < 4 {
				open = append(open, under{x: trans.Begin(s)})
			}
			i := r.Intn(len(open))
			o := open[i]
			if r.Intn(4) > 0 {
				c := api.Call{Kind: 1 + r.Intn(15), Ino: 1 + r.Intn(6), To: 1 + r.Intn(6), Many: r.Intn(5), Name: names[r.Intn(3)], Name2: names[r.Intn(3)], Text: strings.Repeat("x", r.Intn(4))}
				x, reply := trans.Step(o.x, c)
				if !trans.Right(x) {
					t.Fatal("not right", x)
				}
				open[i] = under{x, append(slices.Clone(o.calls), c), append(slices.Clone(o.replies), reply)}
				continue
			}
			open = slices.Delete(open, i, i+1)
			clash := trans.Clash(s, o.x)
			if o.x.Stamp == s.Stamp && clash {
				t.Fatal("a clash at the last stamp")
			}
			after, e := trans.Commit(s, o.x)
			if e != api.OK {
				refused++
				if !clash || !store.Same(after, s) {
					t.Fatal(e)
				}
				continue
			}
			commits++
			from := store.View(s, s.Stamp)
			if clash { // an idle one: it tells what it saw when it began
				from = o.x.Was
			}
			f, replies := ops.Play(from, o.calls)
			if !slices.EqualFunc(replies, o.replies, ops.Same) {
				t.Fatal("other replies", o.calls, replies, o.replies)
			}
			if last := store.View(after, after.Stamp); !clash && !tree.Same(f, last) || !tree.Right(last) || !store.Right(after) {
				t.Fatal("it leads elsewhere", o.calls)
			}
			s = after
		}
	}
	if commits < 100 || refused < 100 {
		t.Error("too few", commits, refused)
	}
}
