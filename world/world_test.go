package world_test

import (
	"fmt"
	"math"
	"math/rand"
	"slices"
	"strings"
	"testing"

	"copyhold/api"
	"copyhold/client"
	"copyhold/disk"
	"copyhold/host"
	"copyhold/keep"
	"copyhold/net"
	"copyhold/ops"
	"copyhold/store"
	"copyhold/tree"
	"copyhold/wire"
	"copyhold/world"
)

func create(name string) api.Call { return api.Call{Kind: api.CCreate, Ino: 1, Name: name} }

// jobs are those of two clients.
func jobs() [][][]api.Call {
	return [][][]api.Call{{{create("a"), {Kind: api.CWrite, Ino: 2, Text: "one"}}, {{Kind: api.CReaddir, Ino: 1}}}, {{create("b")}}}
}

func fresh(t *testing.T, many, lease int, jobs [][][]api.Call) api.World {
	t.Helper()
	w, e := world.New(many, lease, jobs)
	if e != api.OK {
		t.Fatal(e)
	}
	return w
}

// last is what is seen last.
func last(w api.World) api.FS { return store.View(w.K.H.S, w.K.H.S.Stamp) }

// does does a step that tells nothing.
func does(t *testing.T, w api.World, s api.Step) api.World {
	t.Helper()
	x, m, r := world.Do(w, s)
	if m != (api.Msg{}) || !wire.Same(r, api.Rsp{}) {
		t.Errorf("%v: it tells %v %v", s, m, r)
	}
	return x
}

func TestNew(t *testing.T) { // P20.1
	w := fresh(t, 30, 4, jobs())
	d, _ := disk.New(30)
	k, _ := keep.New(d, 4)
	want := api.World{K: k, Lease: 4}
	for i, l := range jobs() {
		c, _ := client.New(i, 1, l)
		want.L = append(want.L, c)
	}
	if !world.Same(w, want) {
		t.Error(w)
	}
	many := slices.Repeat([][][]api.Call{{{create("a")}}}, 65)
	for i, x := range []struct {
		many, lease int
		jobs        [][][]api.Call
		e           api.Errno
	}{
		{30, 4, many, api.ErrArg}, {0, 4, many, api.ErrArg}, {0, 4, nil, api.ErrArg}, {1, 4, nil, api.ErrArg}, {4097, 4, nil, api.ErrArg}, {-1, 4, nil, api.ErrArg}, {30, 0, nil, api.ErrArg}, {30, -1, nil, api.ErrArg}, {math.MaxInt, math.MaxInt, nil, api.ErrArg},
	} {
		if w, e := world.New(x.many, x.lease, x.jobs); e != x.e || !world.Same(w, api.World{}) {
			t.Error(i, e)
		}
	}
	if w := fresh(t, 2, 1, many[:64]); len(w.L) != 64 || w.L[63].Me != 63 {
		t.Error(len(w.L))
	}
	if w := fresh(t, 4096, math.MaxInt, nil); len(w.L) != 0 || net.Many(w.N) != 0 {
		t.Error(w.L)
	}
}

func TestSayUpDown(t *testing.T) { // P20.2
	w := fresh(t, 30, 4, jobs())
	says, _ := client.Say(w.L[1])
	asks, _ := client.Asks(w.L[1])
	x := does(t, w, api.Step{Kind: api.WSay, I: 1})
	want := w
	want.N = api.Net{Up: []string{wire.Msg(says)}}
	if !world.Same(x, want) {
		t.Error(x.N)
	}
	x = does(t, x, api.Step{Kind: api.WAsk, I: 1})
	want.N.Up = append(want.N.Up, wire.Msg(asks))
	if !world.Same(x, want) {
		t.Error(x.N)
	}
	y, m, r := world.Do(x, api.Step{Kind: api.WUp, J: 0})
	k, answer := keep.Handle(w.K, says)
	if m != says || !wire.Same(r, answer) || !keep.Same(y.K, k) || !net.Same(y.N, api.Net{Up: []string{wire.Msg(asks)}, Down: []string{wire.Rsp(answer)}}) || !slices.EqualFunc(y.L, w.L, client.Same) {
		t.Error(m, r)
	}
	z := does(t, y, api.Step{Kind: api.WDown, J: 0})
	want = y
	want.N = api.Net{Up: []string{wire.Msg(asks)}}
	want.L = []api.Client{w.L[0], client.Hear(w.L[1], answer)}
	if !world.Same(z, want) || client.Same(z.L[1], w.L[1]) || !client.Same(y.L[1], w.L[1]) {
		t.Error(z.L)
	}
	z, m, r = world.Do(x, api.Step{Kind: api.WUp, J: 1})
	if m != asks || r.Kind != api.MAsk || len(z.N.Up) != 1 || z.N.Up[0] != wire.Msg(says) {
		t.Error(m, r)
	}
}

func TestNothingThere(t *testing.T) { // P20.2
	w := fresh(t, 30, 4, jobs())
	w = does(t, w, api.Step{Kind: api.WSay, I: 0})
	w.N.Down = []string{wire.Rsp(api.Rsp{Kind: api.MBegin, Client: 0, Epoch: 1, Seq: 1})}
	for _, kind := range []int{api.WSay, api.WAsk} {
		for _, i := range []int{-1, 2, math.MaxInt, math.MinInt} {
			if x := does(t, w, api.Step{Kind: kind, I: i}); !world.Same(x, w) {
				t.Error(kind, i)
			}
		}
	}
	for _, kind := range []int{api.WUp, api.WDown, api.WLose, api.WLack, api.WTwice, api.WAgain, api.WSpoil} {
		for _, j := range []int{-1, 1, math.MaxInt, math.MinInt} {
			if x := does(t, w, api.Step{Kind: kind, J: j, By: 1}); !world.Same(x, w) {
				t.Error(kind, j)
			}
		}
	}
	for _, kind := range []int{0, -1, 13, math.MaxInt, math.MinInt} {
		if x := does(t, w, api.Step{Kind: kind}); !world.Same(x, w) {
			t.Error(kind)
		}
	}
	if x := does(t, w, api.Step{Kind: api.WSpoil, I: 9999, By: 1}); !world.Same(x, w) {
		t.Error("no such byte")
	}
	// One that has ended says nothing, and asks nothing.
	idle := fresh(t, 30, 4, [][][]api.Call{nil})
	for _, kind := range []int{api.WSay, api.WAsk} {
		if x := does(t, idle, api.Step{Kind: kind}); !world.Same(x, idle) {
			t.Error(kind)
		}
	}
	// An answer to a client that isn't there is taken.
	for _, number := range []int{-1, 2, math.MaxInt} {
		odd := w
		odd.N.Down = []string{wire.Rsp(api.Rsp{Kind: api.MBegin, Client: number, Epoch: 1, Seq: 1})}
		x := does(t, odd, api.Step{Kind: api.WDown})
		if odd.N.Down = nil; !world.Same(x, odd) {
			t.Error(number)
		}
	}
}

func TestNetSteps(t *testing.T) { // P20.2
	w := fresh(t, 30, 4, jobs())
	w.N = api.Net{Up: []string{"a", "bc"}, Down: []string{"x", "yz"}}
	for i, x := range []struct {
		s    api.Step
		want api.Net
	}{
		{api.Step{Kind: api.WLose, J: 1}, api.Net{Up: []string{"a"}, Down: []string{"x", "yz"}}},
		{api.Step{Kind: api.WLack, J: 0}, api.Net{Up: []string{"a", "bc"}, Down: []string{"yz"}}},
		{api.Step{Kind: api.WTwice, J: 1}, api.Net{Up: []string{"a", "bc", "bc"}, Down: []string{"x", "yz"}}},
		{api.Step{Kind: api.WAgain, J: 0}, api.Net{Up: []string{"a", "bc"}, Down: []string{"x", "yz", "x"}}},
		{api.Step{Kind: api.WSpoil, J: 1, I: 1, By: 0x20}, api.Net{Up: []string{"a", "bC"}, Down: []string{"x", "yz"}}},
		{api.Step{Kind: api.WUp, J: 0}, api.Net{Up: []string{"bc"}, Down: []string{"x", "yz"}}},
		{api.Step{Kind: api.WDown, J: 1}, api.Net{Up: []string{"a", "bc"}, Down: []string{"x"}}},
	} {
		want := w
		want.N = x.want
		if y := does(t, w, x.s); !world.Same(y, want) {
			t.Error(i, y.N)
		}
	}
	// Where the row down is full, the answer is lost; the server has it.
	w = does(t, w, api.Step{Kind: api.WSay, I: 0})
	w.N.Down = slices.Repeat([]string{"x"}, 64)
	x, m, r := world.Do(w, api.Step{Kind: api.WUp, J: 2})
	if m.Kind != api.MBegin || r.Kind != api.MBegin || len(x.N.Down) != 64 || len(x.K.H.Opens) != 1 {
		t.Error(m, r)
	}
}

func TestServerSteps(t *testing.T) { // P20.2
	w := world.Calm(fresh(t, 30, 4, jobs()), 0, 4)
	w = does(t, w, api.Step{Kind: api.WTick})
	if w.K.H.Now != 1 {
		t.Error(w.K.H.Now)
	}
	w = world.Calm(w, 0, 2)
	want := w
	want.K, _ = keep.Pack(w.K)
	x := does(t, w, api.Step{Kind: api.WPack})
	if !world.Same(x, want) || keep.Same(x.K, w.K) {
		t.Error("pack")
	}
	for _, kept := range [][]bool{nil, {true}, {true, true, true, true}} {
		want := w
		want.K, _ = keep.Recover(disk.Crash(w.K.D, kept), 4)
		if y := does(t, w, api.Step{Kind: api.WCrash, Keep: kept}); !world.Same(y, want) || y.K.H.Now != 0 || len(y.K.H.Opens) != 0 {
			t.Error("crash")
		}
	}
	// What isn't found again changes nothing; so with a pack that has no room.
	bad := w
	bad.K.D.Kept = slices.Clone(w.K.D.Kept)
	bad.K.D.Kept[0] = strings.Repeat("x", 64)
	if y := does(t, bad, api.Step{Kind: api.WCrash}); !world.Same(y, bad) {
		t.Error("a bad head")
	}
	small := fresh(t, 2, 4, [][][]api.Call{{{}}})
	small = world.Play(small, []api.Step{{Kind: api.WAsk}, {Kind: api.WUp}})
	if y := does(t, small, api.Step{Kind: api.WPack}); !world.Same(y, small) || small.K.L.Many != 1 {
		t.Error("no room")
	}
	dead := w
	dead.K.D.Off = true
	if y := does(t, dead, api.Step{Kind: api.WCrash}); y.K.D.Off || !tree.Same(last(y), last(w)) {
		t.Error("the power isn't on behind a crash")
	}
}

func TestPlayCalmEnded(t *testing.T) { // P20.3
	w := fresh(t, 60, 4, jobs())
	steps := []api.Step{{Kind: api.WSay, I: 1}, {Kind: api.WUp}, {Kind: api.WDown}, {Kind: api.WSay, I: 1}, {Kind: api.WUp}, {Kind: api.WDown}}
	want := w
	for _, s := range steps {
		want, _, _ = world.Do(want, s)
	}
	if x := world.Play(w, steps); !world.Same(x, want) || x.L[1].Phase != api.PCommit {
		t.Error(x.L)
	}
	if x := world.Play(w, nil); !world.Same(x, w) {
		t.Error("nothing was played")
	}
	if x := world.Calm(w, 1, 2); !world.Same(x, want) {
		t.Error(x.L)
	}
	for _, rounds := range []int{0, -1, math.MinInt} {
		if x := world.Calm(w, 1, rounds); !world.Same(x, w) {
			t.Error(rounds)
		}
	}
	// All texts come, also those that were on their way.
	busy := world.Play(w, []api.Step{{Kind: api.WSay, I: 0}, {Kind: api.WAsk, I: 1}, {Kind: api.WSay, I: 0}})
	x := world.Calm(busy, 1, 1)
	if net.Many(x.N) != 0 || x.L[0].Phase != api.PCalls || x.L[1].Phase != api.PAck {
		t.Error(x.N, x.L)
	}
	// Of no client: only what is on its way comes.
	y := world.Calm(busy, 9, 1)
	if net.Many(y.N) != 0 || y.L[0].Phase != api.PCalls || y.L[1].Phase != api.PAck {
		t.Error(y.N, y.L)
	}
	for i, ended := range []int{0, 1, 2} {
		if x := world.Ended(w); x != ended {
			t.Error(i, x)
		}
		w = world.Calm(w, i, 20)
	}
	if x := world.Ended(fresh(t, 30, 4, [][][]api.Call{nil, {{create("a")}}, {}})); x != 2 {
		t.Error(x)
	}
}

func TestSame(t *testing.T) { // P20.3
	one := func() api.World {
		return world.Play(world.Calm(fresh(t, 30, 4, jobs()), 0, 3), []api.Step{{Kind: api.WSay, I: 1}})
	}
	for i, change := range []func(w *api.World){
		func(w *api.World) { w.Lease++ }, func(w *api.World) { w.K.H.Now++ }, func(w *api.World) { w.K.L.At++ }, func(w *api.World) { w.L = w.L[:1] }, func(w *api.World) { w.L[1].Seq++ }, func(w *api.World) { w.N.Up = nil }, func(w *api.World) { w.N.Down = []string{""} },
	} {
		w := one()
		if !world.Same(w, one()) {
			t.Fatal("the same")
		}
		change(&w)
		if world.Same(w, one()) || world.Same(one(), w) {
			t.Error(i)
		}
	}
}

func TestExample(t *testing.T) { // P20.8
	w := world.Calm(fresh(t, 30, 5, [][][]api.Call{{{create("a")}}}), 0, 4)
	if world.Ended(w) != 1 || len(w.L[0].Told) != 1 || !w.L[0].Told[0].Yes || w.L[0].Told[0].L[0].A != 2 {
		t.Error(w.L)
	}
}

// key is a transaction.
type key struct{ client, epoch, seq int }

// watch holds a world against the promises of the whole, step by step.
type watch struct {
	t     *testing.T
	w     api.World
	jobs  [][][]api.Call
	f     api.FS                // what all commits lead to, one by one
	at    map[int]api.FS        // the same, by stamps
	told  map[key]api.Errno     // what was answered of each
	serve map[key][][]api.Reply // what a committed one may have been told
	count map[string]int
}

func newWatch(t *testing.T, many, lease int, jobs [][][]api.Call) *watch {
	w := fresh(t, many, lease, jobs)
	return &watch{t: t, w: w, jobs: jobs, f: tree.New(), at: map[int]api.FS{1: tree.New()}, told: map[key]api.Errno{}, serve: map[key][][]api.Reply{}, count: map[string]int{}}
}

// committed takes note of a commit: done on what all ahead of it led to.
func (x *watch) committed(m api.Msg, k key) {
	calls := x.jobs[m.Client][m.Seq-1]
	f, replies := ops.Play(x.f, calls)
	x.serve[k] = [][]api.Reply{replies}
	// One that changes nothing tells what it saw when it began: it stands behind the commits up to then.
	began := x.at[m.Stamp]
	if g, replies := ops.Play(began, calls); tree.Same(g, began) {
		x.serve[k] = append(x.serve[k], replies)
		f = x.f
		x.count["idle"]++
	}
	if !tree.Same(f, x.f) {
		x.count["change"]++
	}
	x.f = f
	x.at[x.w.K.H.S.Stamp] = f
	x.count["commit"]++
}

// step does a step, and looks at what comes of it.
func (x *watch) step(s api.Step) {
	t := x.t
	t.Helper()
	ahead := x.w
	var m api.Msg
	var r api.Rsp
	x.w, m, r = world.Do(ahead, s)
	k := key{m.Client, m.Epoch, m.Seq}
	if m.Kind == api.MCommit && r.R.E == api.OK {
		if _, was := x.told[k]; !was {
			x.committed(m, k)
		}
	}
	if m.Kind == api.MCommit || m.Kind == api.MAsk {
		e := r.R.E
		if e == api.ErrExpired {
			e = api.ErrAgain
		}
		was, known := x.told[k]
		switch e {
		case api.OK, api.ErrAgain:
			if known && was != e {
				t.Fatalf("P20.6: %v: %d, and now %d", m, was, e)
			}
			x.told[k] = e
		default:
			if known && e != api.ErrForgot {
				t.Fatalf("P20.6: %v: %d, and now %d", m, was, e)
			}
		}
	}
	if f := last(x.w); !tree.Same(f, x.f) {
		t.Fatalf("P20.4, P20.5: behind %v something else is seen last: %v, not %v", s, f, x.f)
	}
	if s.Kind == api.WUp && s.J < len(ahead.N.Up) && m.Kind == 0 {
		x.count["spoilt"]++
		if !keep.Same(ahead.K, x.w.K) || !slices.EqualFunc(ahead.L, x.w.L, client.Same) || !slices.Equal(ahead.N.Down, x.w.N.Down) {
			t.Fatalf("P20.7: a spoilt text changed something")
		}
	}
	for i, c := range x.w.L {
		if !client.Right(c) {
			t.Fatal("a client isn't right", c)
		}
		for j := len(ahead.L[i].Told); j < len(c.Told); j++ {
			x.heard(c, c.Told[j])
		}
	}
}

// heard holds what a client was told against what was committed.
func (x *watch) heard(c api.Client, d api.Done) {
	x.t.Helper()
	may, yes := x.serve[key{c.Me, c.Epoch, d.Seq}]
	if yes != d.Yes {
		x.t.Fatalf("P20.4: the client %d was told %v of %d", c.Me, d, d.Seq)
	}
	if yes && !slices.ContainsFunc(may, func(l []api.Reply) bool { return slices.EqualFunc(l, d.L, ops.Same) }) {
		x.t.Fatalf("P20.4: the client %d was told %v, not %v", c.Me, d.L, may)
	}
	x.count[fmt.Sprint("told ", d.Yes)]++
}

// someJobs are random ones.
func someJobs(r *rand.Rand, clients, each int) [][][]api.Call {
	names := []string{"a", "b", "c", "d"}
	l := make([][][]api.Call, clients)
	for i := range l {
		for range each {
			var calls []api.Call
			for range r.Intn(5) {
				// Mostly such that change something: few numbers are there at first.
				kind := []int{api.CCreate, api.CMkdir, api.CWrite, api.CSymlink, api.CRename, api.CRemove, 1 + r.Intn(15), 1 + r.Intn(15)}[r.Intn(8)]
				calls = append(calls, api.Call{Kind: kind, Ino: 1 + r.Intn(5)%(1+r.Intn(5)), To: 1 + r.Intn(3), Many: r.Intn(5), Name: names[r.Intn(4)], Name2: names[r.Intn(4)], Text: strings.Repeat("x", r.Intn(60))})
			}
			l[i] = append(l[i], calls)
		}
	}
	return l
}

// someStep is a random one: rough ones lose, double, spoil and crash.
func someStep(r *rand.Rand, w api.World, rough int) api.Step {
	s := api.Step{I: r.Intn(len(w.L)), J: r.Intn(4), By: byte(1 + r.Intn(255))}
	switch calm := r.Intn(100) >= rough; {
	case calm && (net.Many(w.N) == 0 || r.Intn(12) == 0):
		s.Kind = api.WSay
	case calm && r.Intn(len(w.N.Up)+len(w.N.Down)+1) < len(w.N.Up):
		s.Kind, s.J = api.WUp, r.Intn(len(w.N.Up))
	case calm:
		s.Kind, s.J = api.WDown, r.Intn(len(w.N.Down)+1)
	default:
		s.Kind = []int{api.WAsk, api.WLose, api.WLack, api.WTwice, api.WAgain, api.WSpoil, api.WTick, api.WTick, api.WPack, api.WCrash}[r.Intn(10)]
	}
	if s.Kind == api.WSpoil {
		s.I = r.Intn(30)
	}
	for range r.Intn(6) {
		s.Keep = append(s.Keep, r.Intn(2) == 0)
	}
	return s
}

func TestWhole(t *testing.T) { // P20.4, P20.5, P20.6, P20.7
	r := rand.New(rand.NewSource(22))
	count := map[string]int{}
	for round := range 300 {
		x := newWatch(t, 20+r.Intn(200), 1+r.Intn(8), someJobs(r, 1+r.Intn(4), 5))
		rough := []int{2, 8, 20, 50}[round%4]
		for range 1500 {
			x.step(someStep(r, x.w, rough))
		}
		if !keep.Right(x.w.K) {
			t.Fatal("the keeper isn't right")
		}
		for name, n := range x.count {
			count[name] += n
		}
		count["ended"] += world.Ended(x.w)
	}
	for _, name := range []string{"commit", "change", "idle", "told true", "told false", "spoilt", "ended"} {
		if count[name] < 50 {
			t.Error("too few", name, count)
		}
	}
}

func TestCrashes(t *testing.T) { // P20.5
	r := rand.New(rand.NewSource(23))
	for range 10 {
		x := newWatch(t, 200, 50, someJobs(r, 2, 4))
		for range 200 {
			x.step(someStep(r, x.w, 5))
			// Whatever is kept of it, nothing that was answered is lost.
			for _, kept := range [][]bool{nil, {true}, {false, true}, slices.Repeat([]bool{true}, 9)} {
				y, _, _ := world.Do(x.w, api.Step{Kind: api.WCrash, Keep: kept})
				if !tree.Same(last(y), x.f) || !keep.Right(y.K) {
					t.Fatal("lost behind a crash")
				}
				for k, e := range x.told {
					m := api.Msg{Kind: api.MAsk, Client: k.client, Epoch: k.epoch, Seq: k.seq}
					if _, a := keep.Handle(y.K, m); a.R.E != e && a.R.E != api.ErrForgot {
						t.Fatal("another answer behind a crash", k, e, a)
					}
				}
			}
		}
	}
}

func TestSpoilt(t *testing.T) { // P20.7
	w := world.Calm(fresh(t, 60, 4, jobs()), 0, 2)
	w = world.Play(w, []api.Step{{Kind: api.WSay, I: 0}})
	for i := range len(w.N.Up[0]) {
		for _, by := range []byte{1, 0x80, 0xff} {
			spoilt := does(t, w, api.Step{Kind: api.WSpoil, I: i, By: by})
			x := does(t, spoilt, api.Step{Kind: api.WUp})
			want := w
			want.N = api.Net{}
			if !world.Same(x, want) {
				t.Fatal(i, by)
			}
		}
	}
}

func TestProgress(t *testing.T) { // P20.8
	r := rand.New(rand.NewSource(24))
	for range 60 {
		l := someJobs(r, 1+r.Intn(3), 1+r.Intn(6))
		x := fresh(t, 2000, 1+r.Intn(5), l)
		for i, jobs := range l {
			rounds := 0
			for _, calls := range jobs {
				rounds += 3 + len(calls)
			}
			ended := world.Ended(x)
			if y := world.Calm(x, i, rounds-1); world.Ended(y) != ended {
				t.Fatal("too early")
			}
			x = world.Calm(x, i, rounds)
			if world.Ended(x) != ended+1 || len(x.L[i].Told) != len(jobs) {
				t.Fatal("it didn't end", x.L[i])
			}
			for _, d := range x.L[i].Told {
				if !d.Yes || d.E != api.OK {
					t.Fatal("alone, and refused", d)
				}
			}
		}
		if y := world.Calm(x, 0, 1<<40); !world.Same(y, x) {
			t.Fatal("it changed behind its end")
		}
	}
}

func TestHandedInStays(t *testing.T) { // P20.2
	r := rand.New(rand.NewSource(25))
	w := fresh(t, 60, 4, someJobs(r, 3, 5))
	for range 300 {
		ahead := fmt.Sprint(w)
		s := someStep(r, w, 20)
		x, _, _ := world.Do(w, s)
		world.Do(w, someStep(r, w, 20))
		y, _, _ := world.Do(w, s)
		if fmt.Sprint(w) != ahead {
			t.Fatal("what was handed in changed", s)
		}
		if !world.Same(x, y) {
			t.Fatal("another answer", s)
		}
		w = x
	}
	if !host.Right(w.K.H) {
		t.Error("not right")
	}
}
