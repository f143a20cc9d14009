package table_test

import (
	"math"
	"math/rand"
	"slices"
	"testing"

	"copyhold/api"
	"copyhold/octet"
	"copyhold/table"
)

func number(n int) string { return octet.Num(octet.Fold(n)) }

func yes(seq int) api.Decision { return api.Decision{Seq: seq, Yes: true} }
func no(seq int) api.Decision  { return api.Decision{Seq: seq} }

func row(client, epoch, done int, l ...api.Decision) api.Row {
	return api.Row{Client: client, Epoch: epoch, Done: done, L: l}
}

// some has the clients 1, 4 and 9.
func some() []api.Row {
	return []api.Row{row(1, 1, 0, no(2), yes(5)), row(4, 3, 6, yes(7), no(8)), row(9, 1, 2)}
}

// clients are so many rows, of 10, 20 and so on.
func clients(many int) []api.Row {
	var l []api.Row
	for i := range many {
		l = append(l, row(10*i+10, 2, 0, yes(1)))
	}
	return l
}

// crowd is a row with so many decisions, of 2, 4 and so on.
func crowd(many int) []api.Row {
	r := row(5, 2, 1)
	for i := range many {
		r.L = append(r.L, yes(2*i+2))
	}
	return []api.Row{r}
}

func TestRight(t *testing.T) { // P14.1
	for i, l := range [][]api.Row{nil, {}, some(), clients(64), crowd(256), {row(0, 1, 0)}, {row(math.MaxInt, math.MaxInt, math.MaxInt)}, {row(0, 1, 3, yes(4), no(math.MaxInt))}} {
		if !table.Right(l) {
			t.Error(i, l)
		}
	}
	for i, l := range [][]api.Row{
		clients(65), crowd(257), {row(-1, 1, 0)}, {row(1, 0, 0)}, {row(1, -1, 0)}, {row(1, 1, -1)}, {row(1, 1, 0), row(1, 1, 0)}, {row(2, 1, 0), row(1, 1, 0)},
		{row(1, 1, 0, yes(0))}, {row(1, 1, 3, yes(3))}, {row(1, 1, 3, yes(2))}, {row(1, 1, 0, yes(4), no(4))}, {row(1, 1, 0, yes(4), no(3))}, {row(1, 1, 0), row(2, 1, 5, no(5))}, {row(1, 1, 0, yes(-3))},
	} {
		if table.Right(l) {
			t.Error(i, l)
		}
	}
}

func TestSame(t *testing.T) { // P14.1
	for i, change := range []func(l []api.Row) []api.Row{
		func(l []api.Row) []api.Row { return l[:2] }, func(l []api.Row) []api.Row { l[0].Client = 0; return l }, func(l []api.Row) []api.Row { l[1].Epoch++; return l }, func(l []api.Row) []api.Row { l[2].Done++; return l },
		func(l []api.Row) []api.Row { l[0].L[0].Yes = true; return l }, func(l []api.Row) []api.Row { l[0].L[1].Seq++; return l }, func(l []api.Row) []api.Row { l[1].L = nil; return l }, func(l []api.Row) []api.Row { return append(l, row(10, 1, 0)) },
	} {
		l := some()
		if !table.Same(l, some()) {
			t.Fatal("the same")
		}
		l = change(l)
		if table.Same(l, some()) || table.Same(some(), l) {
			t.Error(i, l)
		}
	}
	if !table.Same(nil, []api.Row{}) || !table.Same([]api.Row{{L: []api.Decision{}}}, []api.Row{{}}) {
		t.Error("lists without elements")
	}
}

func TestAsk(t *testing.T) { // P14.1
	for _, x := range []struct {
		client, epoch, seq int
		yes                bool
		e                  api.Errno
	}{
		{-1, 0, 0, false, api.ErrArg}, {1, 0, 5, false, api.ErrArg}, {1, 1, 0, false, api.ErrArg}, {-1, 1, 1, false, api.ErrArg}, {4, 2, 0, false, api.ErrArg}, {4, -1, 7, false, api.ErrArg}, {math.MinInt, 1, 1, false, api.ErrArg}, {1, 1, math.MinInt, false, api.ErrArg},
		{4, 2, 7, false, api.ErrStale}, {4, 1, 1, false, api.ErrStale},
		{4, 3, 6, false, api.ErrForgot}, {4, 3, 1, false, api.ErrForgot}, {9, 1, 2, false, api.ErrForgot},
		{0, 1, 1, false, api.ErrNone}, {5, 1, 1, false, api.ErrNone}, {99, 1, 1, false, api.ErrNone}, {4, 4, 7, false, api.ErrNone}, {4, 4, 1, false, api.ErrNone}, {4, 3, 9, false, api.ErrNone}, {1, 1, 1, false, api.ErrNone}, {1, 1, 3, false, api.ErrNone}, {9, 1, 3, false, api.ErrNone},
		{1, 1, 2, false, api.OK}, {1, 1, 5, true, api.OK}, {4, 3, 7, true, api.OK}, {4, 3, 8, false, api.OK},
	} {
		if y, e := table.Ask(some(), x.client, x.epoch, x.seq); y != x.yes || e != x.e {
			t.Error(x, y, e)
		}
	}
}

func TestDecide(t *testing.T) { // P14.2
	for i, x := range []struct {
		client, epoch, seq int
		yes                bool
		want               []api.Row
		is                 bool
		e                  api.Errno
	}{
		{-1, 1, 1, true, some(), false, api.ErrArg}, {1, 0, 1, true, some(), false, api.ErrArg}, {1, 1, 0, true, some(), false, api.ErrArg}, {4, 2, 9, true, some(), false, api.ErrStale}, {4, 3, 6, true, some(), false, api.ErrForgot}, {9, 1, 1, true, some(), false, api.ErrForgot},
		{1, 1, 2, true, some(), false, api.OK}, {1, 1, 5, false, some(), true, api.OK}, {1, 1, 5, true, some(), true, api.OK}, {4, 3, 8, true, some(), false, api.OK},
		{1, 1, 1, true, []api.Row{row(1, 1, 0, yes(1), no(2), yes(5)), some()[1], some()[2]}, true, api.OK},
		{1, 1, 3, false, []api.Row{row(1, 1, 0, no(2), no(3), yes(5)), some()[1], some()[2]}, false, api.OK},
		{1, 1, 9, true, []api.Row{row(1, 1, 0, no(2), yes(5), yes(9)), some()[1], some()[2]}, true, api.OK},
		{4, 4, 1, true, []api.Row{some()[0], row(4, 4, 0, yes(1)), some()[2]}, true, api.OK},
		{9, 1, 3, false, []api.Row{some()[0], some()[1], row(9, 1, 2, no(3))}, false, api.OK},
		{0, 5, 2, true, []api.Row{row(0, 5, 0, yes(2)), some()[0], some()[1], some()[2]}, true, api.OK},
		{5, 1, 2, false, []api.Row{some()[0], some()[1], row(5, 1, 0, no(2)), some()[2]}, false, api.OK},
		{math.MaxInt, 1, math.MaxInt, true, append(some(), row(math.MaxInt, 1, 0, yes(math.MaxInt))), true, api.OK},
	} {
		l := some()
		if m, is, e := table.Decide(l, x.client, x.epoch, x.seq, x.yes); !table.Same(m, x.want) || is != x.is || e != x.e {
			t.Error(i, m, is, e)
		}
		if !table.Same(l, some()) {
			t.Error(i, "what was handed in changed")
		}
	}
	if m, is, e := table.Decide(nil, 1, 1, 3, true); !table.Same(m, []api.Row{row(1, 1, 0, yes(3))}) || !is || e != api.OK {
		t.Error(m, is, e)
	}
}

func TestDecideRoom(t *testing.T) { // P14.2
	for i, x := range []struct {
		l                  []api.Row
		client, epoch, seq int
		e                  api.Errno
	}{
		{clients(64), 11, 1, 1, api.ErrRoom}, {clients(64), 0, 1, 1, api.ErrRoom}, {clients(64), 9999, 1, 1, api.ErrRoom}, {clients(64), -1, 1, 1, api.ErrArg},
		{clients(64), 20, 2, 2, api.OK}, {clients(64), 20, 3, 1, api.OK}, {clients(64), 20, 1, 1, api.ErrStale}, {clients(63), 11, 1, 1, api.OK},
		{crowd(256), 5, 2, 3, api.ErrRoom}, {crowd(256), 5, 2, 9999, api.ErrRoom}, {crowd(256), 5, 2, 4, api.OK}, {crowd(256), 5, 3, 9, api.OK}, {crowd(255), 5, 2, 3, api.OK}, {crowd(256), 5, 2, 1, api.ErrForgot}, {crowd(256), 6, 1, 1, api.OK},
	} {
		m, is, e := table.Decide(x.l, x.client, x.epoch, x.seq, true)
		if e != x.e || e != api.OK && (is || !table.Same(m, x.l)) || e == api.OK && !is || !table.Right(m) {
			t.Error(i, is, e)
		}
		if y, f := table.Ask(m, x.client, x.epoch, x.seq); e == api.OK && (!y || f != api.OK) {
			t.Error(i, y, f)
		}
	}
}

func TestForget(t *testing.T) { // P14.2
	for i, x := range []struct {
		client, epoch, done int
		want                []api.Row
		e                   api.Errno
	}{
		{-1, 1, 1, some(), api.ErrArg}, {1, 0, 1, some(), api.ErrArg}, {1, 1, 0, some(), api.ErrArg}, {4, 1, 9, some(), api.ErrStale}, {4, 4, 9, some(), api.ErrNone}, {2, 1, 1, some(), api.ErrNone}, {99, 1, 1, some(), api.ErrNone},
		{1, 1, 1, []api.Row{row(1, 1, 1, no(2), yes(5)), some()[1], some()[2]}, api.OK},
		{1, 1, 2, []api.Row{row(1, 1, 2, yes(5)), some()[1], some()[2]}, api.OK},
		{1, 1, 4, []api.Row{row(1, 1, 4, yes(5)), some()[1], some()[2]}, api.OK},
		{1, 1, 5, []api.Row{row(1, 1, 5), some()[1], some()[2]}, api.OK},
		{1, 1, math.MaxInt, []api.Row{row(1, 1, math.MaxInt), some()[1], some()[2]}, api.OK},
		{4, 3, 2, some(), api.OK}, {4, 3, 6, some(), api.OK}, {9, 1, 3, []api.Row{some()[0], some()[1], row(9, 1, 3)}, api.OK},
	} {
		l := some()
		if m, e := table.Forget(l, x.client, x.epoch, x.done); !table.Same(m, x.want) || e != x.e {
			t.Error(i, m, e)
		}
		if !table.Same(l, some()) {
			t.Error(i, "what was handed in changed")
		}
	}
}

func TestText(t *testing.T) { // P14.3
	if s := table.Text(nil); s != "\x00" {
		t.Errorf("%x", s)
	}
	if s := table.Text([]api.Row{row(1, 1, 0, no(2), yes(5)), row(-1, -2, -3)}); s != "\x02\x02\x02\x00\x02\x04\x00\x0a\x01\x01\x03\x05\x00" {
		t.Errorf("%x", s)
	}
}

func TestTakeRefuses(t *testing.T) { // P14.3
	head, bad := number(1)+number(1)+number(0), "\x80\x00"
	for i, x := range []struct {
		s string
		e api.Errno
	}{
		{"", api.ErrMore}, {"\x01", api.ErrMore}, {"\x01" + number(1), api.ErrMore}, {"\x01" + head, api.ErrMore}, {"\x01" + head + "\x01", api.ErrMore}, {"\x01" + head + "\x01" + number(3), api.ErrMore}, {"\x02" + head + "\x00", api.ErrMore},
		{bad, api.ErrForm}, {"\x01" + bad, api.ErrForm}, {"\x01" + number(1) + bad, api.ErrForm}, {"\x01" + number(1) + number(1) + bad, api.ErrForm}, {"\x01" + head + bad, api.ErrForm}, {"\x01" + head + "\x01" + bad, api.ErrForm}, {"\x01" + head + "\x01" + number(3) + bad, api.ErrForm},
		{octet.Num(65), api.ErrBig}, {octet.Num(64), api.ErrMore}, {octet.Num(math.MaxUint64), api.ErrBig}, {"\x01" + head + octet.Num(257), api.ErrBig}, {"\x01" + head + octet.Num(256), api.ErrMore}, {"\x01" + head + octet.Num(math.MaxUint64), api.ErrBig},
		{"\x01" + number(-1) + number(1) + number(0) + octet.Num(257), api.ErrBig},
		{"\x01" + number(-1) + number(1) + number(0) + "\x01", api.ErrMore},
		{"\x01" + head + "\x01" + number(3) + "\x02", api.ErrForm}, {"\x01" + head + "\x01" + number(3) + octet.Num(math.MaxUint64), api.ErrForm},
		{"\x00z", api.ErrForm}, {"\x01" + head + "\x00z", api.ErrForm},
		{table.Text(clients(65)), api.ErrBig}, {table.Text(crowd(257)), api.ErrBig},
		{table.Text([]api.Row{row(-1, 1, 0)}), api.ErrForm}, {table.Text([]api.Row{row(1, 0, 0)}), api.ErrForm}, {table.Text([]api.Row{row(1, 1, -1)}), api.ErrForm}, {table.Text([]api.Row{row(1, 1, 4, yes(4))}), api.ErrForm}, {table.Text([]api.Row{row(1, 1, 0), row(1, 1, 0)}), api.ErrForm},
	} {
		if l, e := table.Take(x.s); e != x.e || len(l) != 0 {
			t.Errorf("%d: %v %d", i, l, e)
		}
	}
}

func TestTake(t *testing.T) { // P14.3
	r := rand.New(rand.NewSource(15))
	for i, l := range [][]api.Row{nil, some(), clients(64), crowd(256), {row(0, 1, 0)}, {row(math.MaxInt, math.MaxInt, 5, yes(6), no(math.MaxInt))}} {
		s := table.Text(l)
		if m, e := table.Take(s); e != api.OK || !table.Same(l, m) {
			t.Error(i, m, e)
		}
		for range 20 {
			if m, e := table.Take(s[:r.Intn(len(s))]); e != api.ErrMore || len(m) != 0 {
				t.Error(i, m, e)
			}
		}
	}
}

func TestWhatFollows(t *testing.T) { // P14.4
	r := rand.New(rand.NewSource(16))
	type key struct{ client, epoch, seq int }
	for range 100 {
		var l []api.Row
		decided := map[key]bool{}
		epochs, done := map[int]int{}, map[int]int{}
		for range 60 {
			k := key{r.Intn(4), 1 + r.Intn(2), 1 + r.Intn(6)}
			want := r.Intn(2) == 0
			if r.Intn(4) == 0 {
				m, e := table.Forget(l, k.client, k.epoch, k.seq)
				if (e == api.OK) != (epochs[k.client] == k.epoch) {
					t.Fatal(k, e)
				}
				if l = m; e == api.OK {
					done[k.client] = max(done[k.client], k.seq)
				}
			} else {
				m, is, e := table.Decide(l, k.client, k.epoch, k.seq, want)
				switch {
				case epochs[k.client] > k.epoch:
					if e != api.ErrStale {
						t.Fatal(k, e)
					}
				case epochs[k.client] == k.epoch && done[k.client] >= k.seq:
					if e != api.ErrForgot {
						t.Fatal(k, e)
					}
				default:
					if epochs[k.client] < k.epoch {
						epochs[k.client], done[k.client] = k.epoch, 0
					}
					if was, ok := decided[k]; ok {
						want = was
					}
					if e != api.OK || is != want {
						t.Fatal(k, is, e)
					}
					decided[k] = want
				}
				l = m
			}
			if !table.Right(l) {
				t.Fatal(l)
			}
			for k, was := range decided {
				is, e := table.Ask(l, k.client, k.epoch, k.seq)
				switch {
				case epochs[k.client] > k.epoch:
					if e != api.ErrStale {
						t.Fatal(k, e)
					}
				case done[k.client] >= k.seq:
					if e != api.ErrForgot {
						t.Fatal(k, e)
					}
				default:
					if e != api.OK || is != was {
						t.Fatal(k, is, e)
					}
				}
			}
			if clients := slices.IsSortedFunc(l, func(a, b api.Row) int { return a.Client - b.Client }); !clients {
				t.Fatal(l)
			}
		}
	}
}
