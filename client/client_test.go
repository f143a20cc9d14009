package client_test

import (
	"math"
	"math/rand"
	"slices"
	"testing"

	"copyhold/api"
	"copyhold/client"
)

func create(name string) api.Call { return api.Call{Kind: api.CCreate, Ino: 1, Name: name} }

// jobs are three: of two calls, of none, of one.
func jobs() [][]api.Call {
	return [][]api.Call{{create("a"), create("b")}, {}, {create("c")}}
}

func fresh(t *testing.T, jobs [][]api.Call) api.Client {
	t.Helper()
	c, e := client.New(4, 2, jobs)
	if e != api.OK {
		t.Fatal(e)
	}
	return c
}

// rsp is an answer to (4, 2, seq).
func rsp(kind, seq, n int, r api.Reply) api.Rsp {
	return api.Rsp{Kind: kind, Client: 4, Epoch: 2, Seq: seq, N: n, R: r}
}

func no(e api.Errno) api.Reply { return api.Reply{E: e} }

// hears hears answers, each of which must leave it right.
func hears(t *testing.T, c api.Client, l ...api.Rsp) api.Client {
	t.Helper()
	for _, r := range l {
		ahead := c
		if c = client.Hear(c, r); !client.Right(c) {
			t.Fatalf("%v: not right: %v", r, c)
		}
		if !slices.EqualFunc(c.Told[:len(ahead.Told)], ahead.Told, func(x, y api.Done) bool { return x.Seq == y.Seq && x.Yes == y.Yes && x.E == y.E }) {
			t.Fatalf("%v: told otherwise", r)
		}
	}
	return c
}

// says holds what a client says and asks against what is asked for.
func says(t *testing.T, c api.Client, m api.Msg, asks bool) {
	t.Helper()
	x, ok := client.Say(c)
	if want := m.Kind != 0; ok != want || x != m {
		t.Errorf("%v %v, not %v", x, ok, m)
	}
	ask := api.Msg{}
	if asks {
		ask = api.Msg{Kind: api.MAsk, Client: 4, Epoch: 2, Seq: c.Seq}
	}
	if x, ok := client.Asks(c); ok != asks || x != ask {
		t.Errorf("%v %v", x, ok)
	}
}

// at are clients in all their phases.
func at(t *testing.T) map[int]api.Client {
	t.Helper()
	c := fresh(t, jobs())
	l := map[int]api.Client{api.PBegin: c}
	c = hears(t, c, rsp(api.MBegin, 1, 0, api.Reply{A: 7}), rsp(api.MCall, 1, 1, api.Reply{A: 3}))
	l[api.PCalls] = c
	c = hears(t, c, rsp(api.MCall, 1, 2, no(api.ErrThere)))
	l[api.PCommit] = c
	l[api.PAck] = hears(t, c, rsp(api.MCommit, 1, 2, api.Reply{}))
	l[api.PIdle] = hears(t, fresh(t, jobs()[2:]), rsp(api.MBegin, 1, 0, no(api.ErrArg)), rsp(api.MAck, 1, 0, api.Reply{}))
	for phase, c := range l {
		if c.Phase != phase {
			t.Fatal(phase, c)
		}
	}
	return l
}

func TestNew(t *testing.T) { // P18.1
	c := fresh(t, jobs())
	if !client.Same(c, api.Client{Me: 4, Epoch: 2, Seq: 1, Jobs: jobs(), Phase: api.PBegin}) || !client.Right(c) {
		t.Error(c)
	}
	for _, l := range [][][]api.Call{nil, {}} {
		if c := fresh(t, l); !client.Same(c, api.Client{Me: 4, Epoch: 2, Seq: 1, Phase: api.PIdle}) || !client.Right(c) {
			t.Error(c)
		}
	}
	if c, e := client.New(0, 1, jobs()); e != api.OK || !client.Right(c) {
		t.Error(c, e)
	}
	for _, x := range [][2]int{{-1, 1}, {0, 0}, {0, -1}, {math.MinInt, math.MinInt}} {
		if c, e := client.New(x[0], x[1], jobs()); e != api.ErrArg || !client.Same(c, api.Client{}) {
			t.Error(x, c, e)
		}
	}
}

func TestRight(t *testing.T) { // P18.1
	two := []api.Reply{{}, {}}
	done := []api.Done{{Seq: 1}, {Seq: 2, Yes: true, E: 5}, {Seq: 3}}
	base := func(phase, seq, told, n, stamp int) api.Client {
		return api.Client{Me: 4, Epoch: 2, Seq: seq, Jobs: jobs(), Phase: phase, N: n, Stamp: stamp, Told: done[:told:told], Now: two[:n:n]}
	}
	for i, c := range []api.Client{
		base(api.PBegin, 1, 0, 0, 0), base(api.PBegin, 3, 2, 0, 0), base(api.PCalls, 1, 0, 0, 0), base(api.PCalls, 1, 0, 1, -9), base(api.PCalls, 3, 2, 0, 9),
		base(api.PCommit, 1, 0, 2, 9), base(api.PCommit, 2, 1, 0, 0), base(api.PCommit, 3, 2, 1, math.MaxInt), base(api.PAck, 1, 1, 0, 0), base(api.PAck, 3, 3, 0, 0), base(api.PIdle, 4, 3, 0, 0),
		{Me: 0, Epoch: 1, Seq: 1, Phase: api.PIdle},
	} {
		if !client.Right(c) {
			t.Error(i, c)
		}
	}
	odd := func(c api.Client, change func(c *api.Client)) api.Client { change(&c); return c }
	for i, c := range []api.Client{
		{}, base(-1, 1, 0, 0, 0), base(5, 1, 0, 0, 0), base(5, 4, 3, 0, 0), base(api.PBegin, 0, 0, 0, 0), base(api.PBegin, 2, 0, 0, 0), base(api.PBegin, 1, 1, 0, 0), base(api.PBegin, 4, 3, 0, 0), base(api.PBegin, math.MinInt, 0, 0, 0),
		base(api.PBegin, 1, 0, 1, 0), base(api.PBegin, 1, 0, 0, 1), base(api.PCalls, 1, 0, 2, 9), base(api.PCalls, 2, 1, 0, 9), base(api.PCalls, 2, 2, 0, 9), base(api.PCalls, 4, 3, 0, 9),
		base(api.PCommit, 1, 0, 1, 9), base(api.PCommit, 1, 0, 0, 9), base(api.PCommit, 2, 1, 1, 9), base(api.PCommit, 4, 3, 0, 0), base(api.PAck, 1, 0, 0, 0), base(api.PAck, 2, 1, 0, 0), base(api.PAck, 1, 1, 1, 0), base(api.PAck, 1, 1, 0, 3), base(api.PAck, 0, 0, 0, 0),
		base(api.PIdle, 3, 2, 0, 0), base(api.PIdle, 1, 0, 0, 0), base(api.PIdle, 3, 3, 0, 0), base(api.PIdle, 4, 3, 1, 0), base(api.PIdle, 4, 3, 0, 1),
		odd(base(api.PBegin, 1, 0, 0, 0), func(c *api.Client) { c.Me = -1 }), odd(base(api.PBegin, 1, 0, 0, 0), func(c *api.Client) { c.Epoch = 0 }),
		odd(base(api.PCalls, 1, 0, 1, 0), func(c *api.Client) { c.Now = nil }), odd(base(api.PCalls, 1, 0, 0, 0), func(c *api.Client) { c.N = -1 }), odd(base(api.PCalls, 1, 0, 0, 0), func(c *api.Client) { c.Now = two }),
		odd(base(api.PIdle, 4, 3, 0, 0), func(c *api.Client) { c.Told = []api.Done{{Seq: 1}, {Seq: 3}, {Seq: 3}} }), odd(base(api.PBegin, 2, 1, 0, 0), func(c *api.Client) { c.Told = []api.Done{{Seq: 0}} }),
		odd(base(api.PAck, 3, 3, 0, 0), func(c *api.Client) { c.Jobs = c.Jobs[:2] }), odd(base(api.PIdle, 4, 3, 0, 0), func(c *api.Client) { c.Jobs = c.Jobs[:2] }),
	} {
		if client.Right(c) {
			t.Error(i, c)
		}
	}
}

func TestSayAndAsks(t *testing.T) { // P18.1
	l := at(t)
	says(t, l[api.PBegin], api.Msg{Kind: api.MBegin, Client: 4, Epoch: 2, Seq: 1}, true)
	says(t, l[api.PCalls], api.Msg{Kind: api.MCall, Client: 4, Epoch: 2, Seq: 1, N: 2, Stamp: 7, C: create("b")}, true)
	says(t, l[api.PCommit], api.Msg{Kind: api.MCommit, Client: 4, Epoch: 2, Seq: 1, N: 2, Stamp: 7}, true)
	says(t, l[api.PAck], api.Msg{Kind: api.MAck, Client: 4, Epoch: 2, Seq: 1}, false)
	says(t, l[api.PIdle], api.Msg{}, false)
	says(t, fresh(t, nil), api.Msg{}, false)
}

func TestExample(t *testing.T) { // P18.1, P18.2, P18.3
	c, e := client.New(1, 1, [][]api.Call{{create("a")}})
	kinds := []int{api.MBegin, api.MCall, api.MCommit, api.MAck}
	for _, kind := range kinds {
		m, ok := client.Say(c)
		if e != api.OK || !ok || m.Kind != kind || m.Client != 1 || m.Epoch != 1 || m.Seq != 1 {
			t.Fatal(m, ok, e)
		}
		c = client.Hear(c, api.Rsp{Kind: kind, Client: 1, Epoch: 1, Seq: 1, N: m.N, R: api.Reply{A: 5}})
	}
	if m, ok := client.Say(c); ok || m != (api.Msg{}) {
		t.Error(m, ok)
	}
	if len(c.Told) != 1 || !c.Told[0].Yes || c.Told[0].Seq != 1 || c.Told[0].E != api.OK || len(c.Told[0].L) != 1 || c.Told[0].L[0].A != 5 {
		t.Error(c.Told)
	}
}

func TestHearsNotMeant(t *testing.T) { // P18.2
	kinds := map[int]int{api.PBegin: api.MBegin, api.PCalls: api.MCall, api.PCommit: api.MCommit, api.PAck: api.MAck, api.PIdle: 0}
	for phase, c := range at(t) {
		m, _ := client.Say(c)
		_, asks := client.Asks(c)
		for kind := -1; kind < 9; kind++ {
			heard := kind == kinds[phase] && kind > 0 || kind == api.MAsk && asks
			for _, e := range []api.Errno{api.OK, api.ErrArg, api.ErrAgain} {
				r := rsp(kind, c.Seq, m.N, no(e))
				if x := client.Hear(c, r); client.Same(x, c) == heard {
					t.Error(phase, kind, e, "heard, or not")
				}
				for i, other := range []api.Rsp{{Kind: kind, Client: 5, Epoch: 2, Seq: c.Seq, N: m.N, R: no(e)}, {Kind: kind, Client: 4, Epoch: 1, Seq: c.Seq, N: m.N, R: no(e)}, {Kind: kind, Client: 4, Epoch: 3, Seq: c.Seq, N: m.N, R: no(e)}, {Kind: kind, Client: 4, Epoch: 2, Seq: c.Seq - 1, N: m.N, R: no(e)}, {Kind: kind, Client: 4, Epoch: 2, Seq: c.Seq + 1, N: m.N, R: no(e)}} {
					if x := client.Hear(c, other); !client.Same(x, c) {
						t.Error(phase, kind, e, i, "not its own")
					}
				}
			}
		}
	}
	c := at(t)[api.PCalls]
	for _, n := range []int{0, 1, 3, -2, math.MinInt, math.MaxInt} {
		if x := client.Hear(c, rsp(api.MCall, 1, n, api.Reply{A: 9})); !client.Same(x, c) {
			t.Error(n, x)
		}
	}
}

func TestHearBegin(t *testing.T) { // P18.2
	c := fresh(t, jobs())
	want := c
	want.Phase, want.Stamp = api.PCalls, 9
	if x := hears(t, c, rsp(api.MBegin, 1, 5, api.Reply{A: 9, B: 3, Text: "x"})); !client.Same(x, want) {
		t.Error(x)
	}
	for _, e := range []api.Errno{api.ErrThere, api.ErrBusy, api.ErrRoom} {
		if x := hears(t, c, rsp(api.MBegin, 1, 0, api.Reply{E: e, A: 3})); !client.Same(x, c) {
			t.Error(e, x)
		}
	}
	for _, e := range []api.Errno{api.ErrArg, api.ErrStale, api.ErrForgot, api.ErrBig, api.ErrDead, api.ErrAgain, api.ErrNone, 99, -1} {
		want := c
		want.Phase, want.Told = api.PAck, []api.Done{{Seq: 1, E: e}}
		if x := hears(t, c, rsp(api.MBegin, 1, 0, no(e))); !client.Same(x, want) {
			t.Error(e, x)
		}
	}
	// A job without calls.
	c = hears(t, c, rsp(api.MBegin, 1, 0, no(api.ErrStale)), rsp(api.MAck, 1, 0, no(api.ErrNone)))
	says(t, c, api.Msg{Kind: api.MBegin, Client: 4, Epoch: 2, Seq: 2}, true)
	c = hears(t, c, rsp(api.MBegin, 2, 0, api.Reply{A: 3}))
	says(t, c, api.Msg{Kind: api.MCommit, Client: 4, Epoch: 2, Seq: 2, Stamp: 3}, true)
}

func TestHearDecision(t *testing.T) { // P18.2
	l := at(t)
	for _, x := range []struct{ phase, kind int }{{api.PCommit, api.MCommit}, {api.PBegin, api.MAsk}, {api.PCalls, api.MAsk}, {api.PCommit, api.MAsk}} {
		c := l[x.phase]
		for _, e := range []api.Errno{api.ErrBusy, api.ErrRoom, api.ErrBig, api.ErrDead} {
			if y := hears(t, c, rsp(x.kind, 1, 2, no(e))); !client.Same(y, c) {
				t.Error(x, e, y)
			}
		}
		for _, e := range []api.Errno{api.OK, api.ErrAgain, api.ErrExpired, api.ErrForgot, api.ErrStale, api.ErrArg, api.ErrThere, api.ErrNone, 99} {
			want := c
			want.Phase, want.N, want.Stamp, want.Now = api.PAck, 0, 0, nil
			want.Told = []api.Done{{Seq: 1, Yes: e == api.OK, E: e, L: c.Now}}
			y := hears(t, c, rsp(x.kind, 1, 77, no(e)))
			if !client.Same(y, want) {
				t.Error(x, e, y)
			}
			// The second time nothing changes.
			if z := hears(t, y, rsp(x.kind, 1, 77, no(e))); !client.Same(z, y) {
				t.Error(x, e, z)
			}
		}
	}
}

func TestHearAck(t *testing.T) { // P18.2
	c := at(t)[api.PAck]
	for _, e := range []api.Errno{api.OK, api.ErrNone, api.ErrBig, api.ErrRoom, api.ErrDead, 99} {
		want := c
		want.Seq, want.Phase = 2, api.PBegin
		y := hears(t, c, rsp(api.MAck, 1, 3, no(e)))
		if !client.Same(y, want) {
			t.Error(e, y)
		}
		if z := hears(t, y, rsp(api.MAck, 1, 3, no(e))); !client.Same(z, y) {
			t.Error(e, z)
		}
	}
	c = hears(t, c, rsp(api.MAck, 1, 0, api.Reply{}), rsp(api.MBegin, 2, 0, no(api.ErrArg)), rsp(api.MAck, 2, 0, api.Reply{}), rsp(api.MBegin, 3, 0, no(api.ErrArg)))
	c = hears(t, c, rsp(api.MAck, 3, 0, api.Reply{}))
	if c.Phase != api.PIdle || c.Seq != 4 || len(c.Told) != 3 {
		t.Error(c)
	}
}

func TestHearCall(t *testing.T) { // P18.3
	c := hears(t, fresh(t, jobs()), rsp(api.MBegin, 1, 0, api.Reply{A: 7}))
	for _, e := range []api.Errno{api.OK, api.ErrNone, api.ErrExpired, api.ErrArg} {
		want := c
		want.N, want.Now = 1, []api.Reply{{E: e, A: 4, Names: []string{"x"}}}
		y := hears(t, c, rsp(api.MCall, 1, 1, api.Reply{E: e, A: 4, Names: []string{"x"}}))
		if !client.Same(y, want) {
			t.Error(e, y)
		}
		if z := hears(t, y, rsp(api.MCall, 1, 1, api.Reply{E: e, A: 4})); !client.Same(z, y) {
			t.Error(e, z)
		}
		want.N, want.Phase = 2, api.PCommit
		want.Now = append(want.Now, api.Reply{Text: "second"})
		if z := hears(t, y, rsp(api.MCall, 1, 2, api.Reply{Text: "second"})); !client.Same(z, want) {
			t.Error(e, z)
		}
		want = c
		want.Phase, want.Stamp, want.Told = api.PAck, 0, []api.Done{{Seq: 1, E: e, L: y.Now}}
		if z := hears(t, y, rsp(api.MCall, 1, -1, api.Reply{E: e, A: 4})); !client.Same(z, want) {
			t.Error(e, z)
		}
	}
}

func TestSame(t *testing.T) { // P18.1
	one := func() api.Client {
		return api.Client{Me: 1, Epoch: 2, Seq: 3, Jobs: jobs(), Phase: 1, N: 1, Stamp: 4, Told: []api.Done{{Seq: 1, E: 3, L: []api.Reply{{A: 5}}}}, Now: []api.Reply{{B: 6}}}
	}
	for i, change := range []func(c *api.Client){
		func(c *api.Client) { c.Me++ }, func(c *api.Client) { c.Epoch++ }, func(c *api.Client) { c.Seq++ }, func(c *api.Client) { c.Phase++ }, func(c *api.Client) { c.N++ }, func(c *api.Client) { c.Stamp++ },
		func(c *api.Client) { c.Jobs = c.Jobs[:2] }, func(c *api.Client) { c.Jobs[0][1].Name = "x" }, func(c *api.Client) { c.Jobs[0] = c.Jobs[0][:1] }, func(c *api.Client) { c.Told = nil }, func(c *api.Client) { c.Told[0].Seq++ }, func(c *api.Client) { c.Told[0].Yes = true }, func(c *api.Client) { c.Told[0].E++ }, func(c *api.Client) { c.Told[0].L[0].A++ }, func(c *api.Client) { c.Told[0].L = nil },
		func(c *api.Client) { c.Now = nil }, func(c *api.Client) { c.Now[0].B++ },
	} {
		c := one()
		if !client.Same(c, one()) {
			t.Fatal("the same")
		}
		change(&c)
		if client.Same(c, one()) || client.Same(one(), c) {
			t.Error(i, c)
		}
	}
	if !client.Same(api.Client{Jobs: [][]api.Call{{}}}, api.Client{Jobs: [][]api.Call{nil}, Told: []api.Done{}, Now: []api.Reply{}}) {
		t.Error("lists without elements")
	}
}

func TestWhatFollows(t *testing.T) { // P18.4
	r := rand.New(rand.NewSource(20))
	ends := 0
	for range 300 {
		c := fresh(t, jobs())
		for range 60 {
			m, _ := client.Say(c)
			if r.Intn(4) == 0 {
				m, _ = client.Asks(c)
			}
			x := api.Rsp{Kind: m.Kind, Client: 4, Epoch: 2, Seq: c.Seq, N: m.N, R: api.Reply{E: api.Errno(r.Intn(21)), A: r.Intn(9)}}
			if r.Intn(3) > 0 {
				x.R.E = api.OK
			}
			switch r.Intn(12) {
			case 0:
				x.Kind = r.Intn(8)
			case 1:
				x.Seq = r.Intn(5)
			case 2:
				x.N = -1
			}
			y := hears(t, c, x)
			said, _ := client.Say(y)
			if z := hears(t, y, x); !client.Same(z, y) && said.Kind != x.Kind {
				t.Fatal("heard twice", x, c, y, z)
			}
			if len(y.Told) < len(c.Told) || len(y.Told) > len(c.Told)+1 {
				t.Fatal("told otherwise")
			}
			c = y
		}
		if c.Phase == api.PIdle {
			ends++
		}
	}
	if ends < 50 {
		t.Error("too few", ends)
	}
}

func TestGoesOnFromOne(t *testing.T) { // P18.3
	long := make([]api.Call, 9)
	c := hears(t, fresh(t, [][]api.Call{long}), rsp(api.MBegin, 1, 0, api.Reply{A: 7}))
	for i := range 5 {
		c = hears(t, c, rsp(api.MCall, 1, i+1, api.Reply{A: i}))
	}
	one := hears(t, c, rsp(api.MCall, 1, 6, api.Reply{A: 100}))
	hears(t, c, rsp(api.MCall, 1, 6, api.Reply{A: 200}))
	if one.Now[5].A != 100 || len(c.Now) != 5 {
		t.Error("two that go on from one disturb each other")
	}
}
