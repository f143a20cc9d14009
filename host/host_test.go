package host_test

import (
	"fmt"
	"math"
	"math/rand"
	"slices"
	"strings"
	"testing"

	"copyhold/api"
	"copyhold/host"
	"copyhold/ops"
	"copyhold/store"
	"copyhold/table"
	"copyhold/trans"
	"copyhold/tree"
	"copyhold/wire"
)

func fresh(t *testing.T, lease int) api.Host {
	t.Helper()
	h, e := host.New(lease)
	if e != api.OK {
		t.Fatal(e)
	}
	return h
}

// msg is a message of (client, 1, seq).
func msg(kind, client, seq int) api.Msg {
	return api.Msg{Kind: kind, Client: client, Epoch: 1, Seq: seq}
}

// call is the n-th call of (client, 1, seq), begun at a stamp.
func call(client, seq, n, stamp int, c api.Call) api.Msg {
	return api.Msg{Kind: api.MCall, Client: client, Epoch: 1, Seq: seq, N: n, Stamp: stamp, C: c}
}

// commit commits (client, 1, seq), begun at a stamp, behind n calls.
func commit(client, seq, n, stamp int) api.Msg {
	return api.Msg{Kind: api.MCommit, Client: client, Epoch: 1, Seq: seq, N: n, Stamp: stamp}
}

func create(name string) api.Call { return api.Call{Kind: api.CCreate, Ino: 1, Name: name} }

// is is the answer to a message of a reply.
func is(m api.Msg, r api.Reply) api.Rsp {
	return api.Rsp{Kind: m.Kind, Client: m.Client, Epoch: m.Epoch, Seq: m.Seq, N: m.N, R: r}
}

// no is the answer to a message of an error of the server's own.
func no(m api.Msg, e api.Errno) api.Rsp {
	r := is(m, api.Reply{E: e})
	if m.Kind == api.MCall {
		r.N = -1
	}
	return r
}

// says hands a message in, and holds the answer against what is asked for.
func says(t *testing.T, h api.Host, m api.Msg, want api.Rsp) api.Host {
	t.Helper()
	g, r := host.Handle(h, m)
	if !wire.Same(r, want) {
		t.Fatalf("%v: %v, not %v", m, r, want)
	}
	if !host.Right(g) {
		t.Fatalf("%v: not right", m)
	}
	return g
}

// refuses likewise, and nothing may change.
func refuses(t *testing.T, h api.Host, m api.Msg, e api.Errno) {
	t.Helper()
	if g := says(t, h, m, no(m, e)); !host.Same(g, h) {
		t.Fatalf("%v: it changed", m)
	}
}

// ran is a server with (client, 1, seq) committed, of one call.
func ran(t *testing.T, h api.Host, client, seq int, c api.Call, r api.Reply) api.Host {
	t.Helper()
	stamp := h.S.Stamp
	h = says(t, h, msg(api.MBegin, client, seq), is(msg(api.MBegin, client, seq), api.Reply{A: stamp}))
	h = says(t, h, call(client, seq, 1, stamp, c), is(call(client, seq, 1, stamp, c), r))
	return says(t, h, commit(client, seq, 1, stamp), is(commit(client, seq, 1, stamp), api.Reply{}))
}

// ticks lets time go on.
func ticks(h api.Host, many int) api.Host {
	for range many {
		h = host.Tick(h)
	}
	return h
}

func TestNew(t *testing.T) { // P16.1
	for _, lease := range []int{1, 5, math.MaxInt} {
		if h := fresh(t, lease); !host.Same(h, api.Host{S: store.New(), Lease: lease}) || !host.Right(h) {
			t.Error(h)
		}
	}
	for _, lease := range []int{0, -1, math.MinInt} {
		if h, e := host.New(lease); e != api.ErrArg || !host.Same(h, api.Host{}) {
			t.Error(lease, h, e)
		}
	}
}

func open(client, epoch, seq, n int, x api.Txn) api.Open {
	return api.Open{Client: client, Epoch: epoch, Seq: seq, N: n, T: x}
}

func TestRight(t *testing.T) { // P16.1
	x := trans.Begin(store.New())
	late := x
	late.Stamp = 2
	broken := api.Store{Nexts: []api.Count{{Stamp: 1, Next: 2}}, Stamp: 1} // right, but nothing is seen last
	many := func(n int) []api.Open {
		var l []api.Open
		for i := range n {
			l = append(l, open(i, 1, 1, 0, x))
		}
		return l
	}
	for i, change := range []func(h *api.Host){
		func(h *api.Host) {}, func(h *api.Host) { h.Now = math.MaxInt }, func(h *api.Host) { h.Opens = many(64) }, func(h *api.Host) { h.Opens = []api.Open{open(0, 1, 1, 0, x), open(9, 7, 8, 9, x)} },
		func(h *api.Host) { h.Opens = many(1); h.Opens[0].Until = -5; h.Opens[0].Last = api.Reply{E: 99} }, func(h *api.Host) { h.Rows = []api.Row{{Client: 5, Epoch: 1}} },
	} {
		h := fresh(t, 1)
		if change(&h); !host.Right(h) {
			t.Error(i, h)
		}
	}
	for i, change := range []func(h *api.Host){
		func(h *api.Host) { h.S = api.Store{} }, func(h *api.Host) { h.S.Stamp = 0 }, func(h *api.Host) { h.S = broken }, func(h *api.Host) { h.Rows = []api.Row{{}} }, func(h *api.Host) { h.Now = -1 }, func(h *api.Host) { h.Lease = 0 },
		func(h *api.Host) { h.Opens = many(65) }, func(h *api.Host) { h.Opens = []api.Open{open(-1, 1, 1, 0, x)} }, func(h *api.Host) { h.Opens = []api.Open{open(1, 1, 1, 0, x), open(1, 1, 1, 0, x)} }, func(h *api.Host) { h.Opens = []api.Open{open(2, 1, 1, 0, x), open(1, 1, 1, 0, x)} },
		func(h *api.Host) { h.Opens = []api.Open{open(1, 0, 1, 0, x)} }, func(h *api.Host) { h.Opens = []api.Open{open(1, 1, 0, 0, x)} }, func(h *api.Host) { h.Opens = []api.Open{open(1, 1, 1, -1, x)} }, func(h *api.Host) { h.Opens = []api.Open{open(1, 1, 1, 0, late)} }, func(h *api.Host) { h.Opens = []api.Open{open(1, 1, 1, 0, api.Txn{Stamp: 1})} },
	} {
		h := fresh(t, 1)
		if change(&h); host.Right(h) {
			t.Error(i, h)
		}
	}
}

func TestSame(t *testing.T) { // P16.1
	one := func() api.Host {
		h := fresh(t, 3)
		h.Opens = []api.Open{open(1, 2, 3, 4, trans.Begin(store.New())), open(5, 1, 1, 0, trans.Begin(store.New()))}
		h.Rows = []api.Row{{Client: 5, Epoch: 1}}
		return h
	}
	for i, change := range []func(h *api.Host){
		func(h *api.Host) { h.Now++ }, func(h *api.Host) { h.Lease++ }, func(h *api.Host) { h.S.Stamp++ }, func(h *api.Host) { h.Rows[0].Done++ }, func(h *api.Host) { h.Opens = h.Opens[:1] }, func(h *api.Host) { h.Opens[0].Client-- },
		func(h *api.Host) { h.Opens[0].Epoch++ }, func(h *api.Host) { h.Opens[0].Seq++ }, func(h *api.Host) { h.Opens[1].N++ }, func(h *api.Host) { h.Opens[1].T.Stamp++ }, func(h *api.Host) { h.Opens[0].Last.A++ }, func(h *api.Host) { h.Opens[1].Until++ },
	} {
		h := one()
		if !host.Same(h, one()) {
			t.Fatal("the same")
		}
		change(&h)
		if host.Same(h, one()) || host.Same(one(), h) {
			t.Error(i)
		}
	}
}

func TestFindTickSweep(t *testing.T) { // P16.1
	h := fresh(t, 2)
	h = says(t, h, msg(api.MBegin, 3, 1), is(msg(api.MBegin, 3, 1), api.Reply{A: 1}))
	h = ran(t, h, 7, 1, create("a"), api.Reply{A: 2})
	h = host.Tick(h)
	if h.Now != 1 {
		t.Error(h.Now)
	}
	h = says(t, h, msg(api.MBegin, 5, 4), is(msg(api.MBegin, 5, 4), api.Reply{A: 2}))
	h = ran(t, h, 7, 2, api.Call{Kind: api.CWrite, Ino: 2, Text: "x"}, api.Reply{A: 1})
	h = ran(t, h, 7, 3, api.Call{Kind: api.CWrite, Ino: 2, Text: "y"}, api.Reply{A: 1})
	if o, ok := host.Find(h, 3); !ok || o.Client != 3 || o.Seq != 1 || o.Until != 2 || o.T.Stamp != 1 {
		t.Error(o, ok)
	}
	for _, client := range []int{0, 4, 7, 9, -1} {
		if o, ok := host.Find(h, client); ok || o.Client != 0 || o.Seq != 0 || o.T.Stamp != 0 {
			t.Error(client, o, ok)
		}
	}
	for many, pins := range map[int][]int{0: {1, 2}, 1: {1, 2}, 2: {2}, 3: nil, 9: nil} {
		g := ticks(h, many)
		swept := host.Sweep(g)
		if !store.Same(swept.S, store.Sweep(g.S, pins)) || len(swept.Opens) != len(pins) || swept.Now != g.Now || !table.Same(swept.Rows, g.Rows) || !host.Right(swept) {
			t.Error(many, swept)
		}
		for i, p := range pins {
			if swept.Opens[i].T.Stamp != p {
				t.Error(many, swept.Opens[i])
			}
		}
	}
	h.Now = math.MaxInt
	if g := host.Tick(h); g.Now != math.MinInt {
		t.Error(g.Now)
	}
}

func TestExample(t *testing.T) { // P16.2, P16.3
	h := fresh(t, 5)
	h = ran(t, h, 1, 1, create("a"), api.Reply{A: 2})
	h = says(t, h, msg(api.MAsk, 1, 1), is(msg(api.MAsk, 1, 1), api.Reply{}))
	if h.S.Stamp != 2 || len(h.Opens) != 0 || !table.Same(h.Rows, []api.Row{{Client: 1, Epoch: 1, L: []api.Decision{{Seq: 1, Yes: true}}}}) {
		t.Error(h)
	}
	if f := store.View(h.S, 2); len(f.L) != 2 || f.L[0].L[0].Name != "a" {
		t.Error(f)
	}
}

func TestAck(t *testing.T) { // P16.2
	h := ran(t, fresh(t, 5), 1, 3, create("a"), api.Reply{A: 2})
	for m, e := range map[api.Msg]api.Errno{msg(api.MAck, 2, 3): api.ErrNone, msg(api.MAck, -1, 3): api.ErrArg, msg(api.MAck, 1, 0): api.ErrArg, {Kind: api.MAck, Client: 1, Epoch: 2, Seq: 3}: api.ErrNone, {Kind: api.MAck, Client: 1, Epoch: 0, Seq: 3, N: 77}: api.ErrArg} {
		refuses(t, h, m, e)
	}
	m := api.Msg{Kind: api.MAck, Client: 1, Epoch: 1, Seq: 2, N: 9, Stamp: 8}
	h = says(t, h, m, is(m, api.Reply{}))
	if yes, e := table.Ask(h.Rows, 1, 1, 3); !yes || e != api.OK {
		t.Error(h.Rows)
	}
	m.Seq = 3
	h = says(t, h, m, is(m, api.Reply{}))
	for _, kind := range []int{api.MBegin, api.MCall, api.MCommit, api.MAbort, api.MAsk, 99, 0} {
		refuses(t, h, msg(kind, 1, 3), api.ErrForgot)
		refuses(t, h, msg(kind, 1, 1), api.ErrForgot)
	}
	if !table.Same(h.Rows, []api.Row{{Client: 1, Epoch: 1, Done: 3}}) {
		t.Error(h.Rows)
	}
	h.Rows[0].Epoch = 4
	refuses(t, h, msg(api.MAck, 1, 9), api.ErrStale)
	for _, kind := range []int{api.MBegin, api.MCall, api.MCommit, api.MAbort, api.MAsk, 7} {
		refuses(t, h, msg(kind, 1, 9), api.ErrStale)
	}
}

func TestWrongMessages(t *testing.T) { // P16.2
	h := ran(t, fresh(t, 5), 1, 1, create("a"), api.Reply{A: 2})
	h = says(t, h, msg(api.MAbort, 1, 2), is(msg(api.MAbort, 1, 2), api.Reply{E: api.ErrAgain}))
	for _, kind := range []int{api.MBegin, api.MCall, api.MCommit, api.MAbort, api.MAsk, 0, 7, -1} {
		refuses(t, h, msg(kind, -1, 1), api.ErrArg)
		refuses(t, h, msg(kind, 1, 0), api.ErrArg)
		refuses(t, h, api.Msg{Kind: kind, Client: 1, Seq: 1}, api.ErrArg)
	}
	for _, kind := range []int{0, 7, -1, math.MaxInt, math.MinInt} {
		refuses(t, h, msg(kind, 1, 1), api.ErrArg)
		refuses(t, h, msg(kind, 1, 2), api.ErrArg)
		refuses(t, h, msg(kind, 1, 9), api.ErrArg)
	}
	for seq, e := range map[int]api.Errno{1: api.OK, 2: api.ErrAgain} {
		for kind, e := range map[int]api.Errno{api.MBegin: api.ErrThere, api.MCall: api.ErrThere, api.MCommit: e, api.MAbort: e, api.MAsk: e} {
			refuses(t, h, api.Msg{Kind: kind, Client: 1, Epoch: 1, Seq: seq, N: 44, Stamp: 55}, e)
		}
	}
}

func TestBegin(t *testing.T) { // P16.3
	h := fresh(t, 3)
	m := api.Msg{Kind: api.MBegin, Client: 4, Epoch: 2, Seq: 7, N: 5, Stamp: 99, C: create("x")}
	h = ticks(h, 2)
	g := says(t, h, m, is(m, api.Reply{A: 1}))
	want := api.Open{Client: 4, Epoch: 2, Seq: 7, T: trans.Begin(h.S), Until: 5}
	if o, ok := host.Find(g, 4); !ok || !host.Same(api.Host{Opens: []api.Open{o}}, api.Host{Opens: []api.Open{want}}) {
		t.Error(o, ok)
	}
	if len(g.Opens) != 1 || len(g.Rows) != 0 || !store.Same(g.S, h.S) {
		t.Error(g)
	}
	g = ran(t, g, 1, 1, create("a"), api.Reply{A: 2})
	// Again, even when it is late: it is the same.
	for _, many := range []int{0, 3, 9} {
		late := ticks(g, many)
		if x := says(t, late, m, is(m, api.Reply{A: 1})); !host.Same(x, late) {
			t.Error("it changed")
		}
	}
	for _, x := range []struct {
		epoch, seq, ticks int
		busy              bool
	}{{2, 8, 0, true}, {2, 8, 3, true}, {2, 8, 4, false}, {2, 6, 0, true}, {1, 7, 0, true}, {1, 7, 4, false}, {3, 7, 0, false}, {3, 1, 9, false}} {
		late := ticks(g, x.ticks)
		m := api.Msg{Kind: api.MBegin, Client: 4, Epoch: x.epoch, Seq: x.seq}
		if x.busy {
			refuses(t, late, m, api.ErrBusy)
			continue
		}
		y := says(t, late, m, is(m, api.Reply{A: 2}))
		if o, ok := host.Find(y, 4); !ok || o.Epoch != x.epoch || o.Seq != x.seq || o.T.Stamp != 2 || o.Until != late.Now+3 || len(y.Opens) != 1 {
			t.Error(x, o)
		}
	}
}

func TestBeginRoom(t *testing.T) { // P16.3
	h := fresh(t, 3)
	for i := range 64 {
		h = says(t, h, msg(api.MBegin, 2*i+1, 1), is(msg(api.MBegin, 2*i+1, 1), api.Reply{A: 1}))
	}
	for _, client := range []int{0, 2, 64, 999} {
		refuses(t, h, msg(api.MBegin, client, 1), api.ErrRoom)
		refuses(t, ticks(h, 9), msg(api.MBegin, client, 1), api.ErrRoom)
	}
	refuses(t, h, msg(api.MBegin, 1, 2), api.ErrBusy)
	late := ticks(h, 4)
	g := says(t, late, msg(api.MBegin, 1, 2), is(msg(api.MBegin, 1, 2), api.Reply{A: 1}))
	if len(g.Opens) != 64 {
		t.Error(len(g.Opens))
	}
	m := api.Msg{Kind: api.MBegin, Client: 5, Epoch: 2, Seq: 1}
	says(t, h, m, is(m, api.Reply{A: 1}))
}

func TestCall(t *testing.T) { // P16.3
	h := fresh(t, 3)
	refuses(t, h, call(1, 1, 1, 1, create("a")), api.ErrNone)
	h = says(t, h, msg(api.MBegin, 1, 1), is(msg(api.MBegin, 1, 1), api.Reply{A: 1}))
	for _, n := range []int{2, -1, 7, math.MaxInt, math.MinInt} {
		refuses(t, h, call(1, 1, n, 1, create("a")), api.ErrArg)
	}
	zero := call(1, 1, 0, 1, create("a"))
	if g := says(t, h, zero, is(zero, api.Reply{})); !host.Same(g, h) {
		t.Error("it changed")
	}
	for _, m := range []api.Msg{call(1, 2, 1, 1, create("a")), {Kind: api.MCall, Client: 1, Epoch: 2, Seq: 1, N: 1, Stamp: 1}, call(2, 1, 1, 1, create("a"))} {
		refuses(t, h, m, api.ErrNone)
	}
	for _, stamp := range []int{0, 2, -1} {
		refuses(t, h, call(1, 1, 1, stamp, create("a")), api.ErrExpired)
		refuses(t, h, call(1, 1, 9, stamp, create("a")), api.ErrExpired)
	}
	refuses(t, ticks(h, 4), call(1, 1, 1, 1, create("a")), api.ErrExpired)
	refuses(t, ticks(h, 4), call(1, 1, 0, 1, create("a")), api.ErrExpired)
	at := ticks(h, 3)
	first := call(1, 1, 1, 1, create("a"))
	g := says(t, at, first, is(first, api.Reply{A: 2}))
	x, reply := trans.Step(trans.Begin(h.S), create("a"))
	if o, _ := host.Find(g, 1); o.N != 1 || o.Until != 6 || !trans.Same(o.T, x) || !ops.Same(o.Last, reply) {
		t.Error(o)
	}
	// Once more: the same reply, and nothing is done, whatever the call is.
	first.C = create("b")
	if y := says(t, ticks(g, 2), first, is(first, api.Reply{A: 2})); !host.Same(y, ticks(g, 2)) {
		t.Error("it changed")
	}
	refuses(t, g, call(1, 1, 3, 1, create("b")), api.ErrArg)
	refuses(t, g, call(1, 1, 0, 1, create("b")), api.ErrArg)
	// A call's own error is no error of the server's.
	second := call(1, 1, 2, 1, create("a"))
	g = says(t, g, second, is(second, api.Reply{E: api.ErrThere}))
	if o, _ := host.Find(g, 1); o.N != 2 || o.Last.E != api.ErrThere {
		t.Error(o)
	}
	third := call(1, 1, 3, 1, api.Call{Kind: 77})
	g = says(t, g, third, is(third, api.Reply{E: api.ErrArg}))
	fourth := call(1, 1, 4, 1, api.Call{Kind: api.CReaddir, Ino: 1})
	g = says(t, g, fourth, is(fourth, api.Reply{Names: []string{"a"}}))
	if y := says(t, g, fourth, is(fourth, api.Reply{Names: []string{"a"}})); !host.Same(y, g) || y.S.Stamp != 1 {
		t.Error("it changed")
	}
}

func TestCallRound(t *testing.T) { // P16.3
	h := fresh(t, 3)
	h.Opens = []api.Open{open(1, 1, 1, math.MaxInt, trans.Begin(h.S))}
	m := call(1, 1, math.MinInt, 1, create("a"))
	if g, r := host.Handle(h, m); !wire.Same(r, is(m, api.Reply{A: 2})) || g.Opens[0].N != math.MinInt {
		t.Error(r)
	}
}

func TestAsk(t *testing.T) { // P16.3
	h := fresh(t, 3)
	h = says(t, h, msg(api.MBegin, 1, 1), is(msg(api.MBegin, 1, 1), api.Reply{A: 1}))
	ask := api.Msg{Kind: api.MAsk, Client: 1, Epoch: 1, Seq: 1, N: 3, Stamp: 77}
	refuses(t, h, ask, api.ErrBusy)
	refuses(t, ticks(h, 3), ask, api.ErrBusy)
	late := ticks(h, 4)
	g := says(t, late, ask, is(ask, api.Reply{E: api.ErrAgain}))
	if len(g.Opens) != 0 || !table.Same(g.Rows, []api.Row{{Client: 1, Epoch: 1, L: []api.Decision{{Seq: 1}}}}) || !store.Same(g.S, h.S) {
		t.Error(g)
	}
	refuses(t, g, call(1, 1, 1, 1, create("a")), api.ErrThere)
	refuses(t, g, commit(1, 1, 0, 1), api.ErrAgain)
	// Of one that isn't under way it is no; another one of the client stays.
	other := msg(api.MAsk, 1, 2)
	g = says(t, h, other, is(other, api.Reply{E: api.ErrAgain}))
	if len(g.Opens) != 1 || !table.Same(g.Rows, []api.Row{{Client: 1, Epoch: 1, L: []api.Decision{{Seq: 2}}}}) {
		t.Error(g)
	}
}

func TestAbort(t *testing.T) { // P16.3
	h := fresh(t, 3)
	h = says(t, h, msg(api.MBegin, 1, 1), is(msg(api.MBegin, 1, 1), api.Reply{A: 1}))
	h = says(t, h, call(1, 1, 1, 1, create("a")), is(call(1, 1, 1, 1, create("a")), api.Reply{A: 2}))
	abort := msg(api.MAbort, 1, 1)
	for _, many := range []int{0, 9} {
		g := says(t, ticks(h, many), abort, is(abort, api.Reply{E: api.ErrAgain}))
		if len(g.Opens) != 0 || !table.Same(g.Rows, []api.Row{{Client: 1, Epoch: 1, L: []api.Decision{{Seq: 1}}}}) || g.S.Stamp != 1 {
			t.Error(g)
		}
		refuses(t, g, abort, api.ErrAgain)
		refuses(t, g, commit(1, 1, 1, 1), api.ErrAgain)
	}
}

func TestCommit(t *testing.T) { // P16.3
	h := fresh(t, 3)
	begin := msg(api.MBegin, 1, 1)
	h = says(t, h, begin, is(begin, api.Reply{A: 1}))
	h = says(t, h, call(1, 1, 1, 1, create("a")), is(call(1, 1, 1, 1, create("a")), api.Reply{A: 2}))
	refused := func(h api.Host, m api.Msg, e api.Errno) {
		t.Helper()
		g := says(t, h, m, is(m, api.Reply{E: e}))
		if _, ok := host.Find(g, 1); ok || !store.Same(g.S, h.S) {
			t.Error("under way, or committed")
		}
		if yes, e := table.Ask(g.Rows, 1, 1, m.Seq); yes || e != api.OK {
			t.Error("not decided")
		}
		refuses(t, g, m, api.ErrAgain)
	}
	refused(h, commit(1, 1, 0, 1), api.ErrAgain)
	refused(h, commit(1, 1, 2, 1), api.ErrAgain)
	refused(h, commit(1, 1, -1, 1), api.ErrAgain)
	refused(h, commit(1, 1, 1, 2), api.ErrExpired)
	refused(h, commit(1, 1, 9, 0), api.ErrExpired)
	refused(ticks(h, 4), commit(1, 1, 1, 1), api.ErrExpired)
	refused(fresh(t, 3), commit(1, 1, 0, 1), api.ErrAgain)
	refused(ran(t, h, 2, 1, create("b"), api.Reply{A: 2}), commit(1, 1, 1, 1), api.ErrAgain)
	g := says(t, ticks(h, 3), commit(1, 1, 1, 1), is(commit(1, 1, 1, 1), api.Reply{}))
	s, _ := trans.Run(h.S, []api.Call{create("a")})
	if !store.Same(g.S, s) || len(g.Opens) != 0 || g.Now != 3 {
		t.Error(g)
	}
	for range 3 {
		refuses(t, g, commit(1, 1, 1, 1), api.OK)
		refuses(t, g, commit(1, 1, 5, 7), api.OK)
	}
	// An idle one commits, whoever was ahead.
	h = fresh(t, 3)
	h = says(t, h, begin, is(begin, api.Reply{A: 1}))
	h = says(t, h, call(1, 1, 1, 1, api.Call{Kind: api.CReaddir, Ino: 1}), is(call(1, 1, 1, 1, api.Call{}), api.Reply{}))
	h = ran(t, h, 2, 1, create("b"), api.Reply{A: 2})
	g = says(t, h, commit(1, 1, 1, 1), is(commit(1, 1, 1, 1), api.Reply{}))
	if !store.Same(g.S, h.S) || len(g.Opens) != 0 {
		t.Error(g)
	}
}

func TestDecideRoom(t *testing.T) { // P16.3
	h := fresh(t, 3)
	for i := range 64 {
		h.Rows = append(h.Rows, api.Row{Client: 10 + i, Epoch: 1})
	}
	h = says(t, h, msg(api.MBegin, 1, 1), is(msg(api.MBegin, 1, 1), api.Reply{A: 1}))
	h = says(t, h, call(1, 1, 1, 1, create("a")), is(call(1, 1, 1, 1, create("a")), api.Reply{A: 2}))
	refuses(t, h, commit(1, 1, 1, 1), api.ErrRoom)
	refuses(t, h, commit(1, 1, 2, 1), api.ErrRoom)
	refuses(t, h, msg(api.MAbort, 1, 1), api.ErrRoom)
	refuses(t, h, msg(api.MAsk, 1, 1), api.ErrBusy)
	refuses(t, h, msg(api.MAsk, 1, 2), api.ErrRoom)
	refuses(t, ticks(h, 9), msg(api.MAsk, 1, 1), api.ErrRoom)
	refuses(t, ticks(h, 9), commit(1, 1, 1, 1), api.ErrRoom)
}

func TestWhatFollows(t *testing.T) { // P16.4
	r := rand.New(rand.NewSource(18))
	names := []string{"a", "b", "c"}
	type key struct{ client, epoch, seq int }
	commits := 0
	for round := range 200 {
		h := fresh(t, 1+r.Intn(4))
		told := map[key]api.Errno{}
		for range 250 {
			switch r.Intn(12) {
			case 0:
				h = host.Tick(h)
			case 1:
				last := store.View(h.S, h.S.Stamp)
				h = host.Sweep(h)
				if !tree.Same(last, store.View(h.S, h.S.Stamp)) {
					t.Fatal("a sweep changed what is seen last")
				}
			}
			m := api.Msg{Kind: 1 + r.Intn(6), Client: r.Intn(3), Epoch: 1 + r.Intn(50)/49, Seq: 1 + r.Intn(3), N: r.Intn(3), Stamp: h.S.Stamp}
			if m.Kind == api.MAck && r.Intn(4) > 0 {
				m.Kind = api.MBegin
			}
			if o, ok := host.Find(h, m.Client); ok && r.Intn(5) > 0 {
				m.Epoch, m.Seq, m.Stamp, m.N = o.Epoch, o.Seq, o.T.Stamp, o.N
				if m.Kind == api.MCall && r.Intn(3) > 0 {
					m.N++
				}
			}
			if r.Intn(40) == 0 {
				m = api.Msg{Kind: r.Intn(9) - 1, Client: r.Intn(5) - 1, Epoch: r.Intn(3), Seq: r.Intn(5) - 1}
			}
			m.C = api.Call{Kind: 1 + r.Intn(15), Ino: 1 + r.Intn(4), To: 1 + r.Intn(4), Many: r.Intn(5), Name: names[r.Intn(3)], Name2: names[r.Intn(3)], Text: strings.Repeat("x", r.Intn(4))}
			k := key{m.Client, m.Epoch, m.Seq}
			g, rsp := host.Handle(h, m)
			if !host.Right(g) {
				t.Fatal("not right behind", m)
			}
			if rsp.Kind != m.Kind || rsp.Client != m.Client || rsp.Epoch != m.Epoch || rsp.Seq != m.Seq || rsp.N != m.N && rsp.N != -1 {
				t.Fatal(m, rsp)
			}
			if g.S.Stamp != h.S.Stamp && (m.Kind != api.MCommit || rsp.R.E != api.OK) {
				t.Fatal("the store changed, and no commit was answered", m, rsp)
			}
			if m.Kind == api.MCommit && rsp.R.E == api.OK {
				if _, was := told[k]; !was {
					o, ok := host.Find(h, m.Client)
					if !ok || !tree.Same(ops.Apply(store.View(h.S, h.S.Stamp), ops.Changes(o.T.Was, o.T.Now), o.T.Now.Next), store.View(g.S, g.S.Stamp)) {
						t.Fatal("a commit was answered, and the store hasn't got it", m)
					}
					commits++
				}
			}
			if m.Kind == api.MCommit || m.Kind == api.MAsk || m.Kind == api.MAbort {
				e := rsp.R.E
				if e == api.ErrExpired {
					e = api.ErrAgain
				}
				was, ok := told[k]
				if ok && e != was && e != api.ErrForgot && e != api.ErrStale {
					t.Fatal("another answer", round, m, was, e)
				}
				if e == api.OK || e == api.ErrAgain {
					told[k] = e
				}
			}
			h = g
		}
	}
	if commits < 100 {
		t.Error("too few", commits)
	}
}

func TestHandedInStays(t *testing.T) { // P16.3
	h := fresh(t, 9)
	h.Opens = slices.Grow(h.Opens, 10)
	for i := range 4 {
		h = says(t, h, msg(api.MBegin, 2*i, 1), is(msg(api.MBegin, 2*i, 1), api.Reply{A: 1}))
	}
	ahead := fmt.Sprint(h)
	for i := range 4 {
		says(t, h, msg(api.MBegin, 2*i+1, 1), is(msg(api.MBegin, 2*i+1, 1), api.Reply{A: 1}))
		says(t, h, call(2*i, 1, 1, 1, create("a")), is(call(2*i, 1, 1, 1, create("a")), api.Reply{A: 2}))
		says(t, h, msg(api.MAbort, 2*i, 1), is(msg(api.MAbort, 2*i, 1), api.Reply{E: api.ErrAgain}))
	}
	if fmt.Sprint(h) != ahead {
		t.Error("what was handed in changed")
	}
}
