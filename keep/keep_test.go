package keep_test

import (
	"encoding/binary"
	"fmt"
	"math"
	"math/rand"
	"slices"
	"strings"
	"testing"

	"copyhold/api"
	"copyhold/disk"
	"copyhold/host"
	"copyhold/keep"
	"copyhold/node"
	"copyhold/octet"
	"copyhold/ops"
	"copyhold/redo"
	"copyhold/seal"
	"copyhold/store"
	"copyhold/table"
	"copyhold/trans"
	"copyhold/tree"
	"copyhold/wire"
)

func numbers(l ...int) string {
	s := ""
	for _, n := range l {
		s += octet.Num(octet.Fold(n))
	}
	return s
}

// sector is a sector of a text.
func sector(s string) string { return s + strings.Repeat("\x00", 64-len(s)) }

// head is the head of a place and a number.
func head(place, number uint64) string {
	return sector(seal.Put(string(binary.LittleEndian.AppendUint64(binary.LittleEndian.AppendUint64(nil, place), number))))
}

func blank(t *testing.T, many int) api.Disk {
	t.Helper()
	d, e := disk.New(many)
	if e != api.OK {
		t.Fatal(e)
	}
	return d
}

func fresh(t *testing.T, many int) api.Keep {
	t.Helper()
	k, e := keep.New(blank(t, many), 5)
	if e != api.OK {
		t.Fatal(e)
	}
	return k
}

// last is what is seen last.
func last(h api.Host) api.FS { return store.View(h.S, h.S.Stamp) }

// says hands a message in: its answer's error must be that.
func says(t *testing.T, k api.Keep, m api.Msg, e api.Errno) api.Keep {
	t.Helper()
	g, r := keep.Handle(k, m)
	if r.R.E != e {
		t.Fatalf("%v: %v, not %d", m, r, e)
	}
	if !keep.Right(g) {
		t.Fatalf("%v: not right", m)
	}
	return g
}

func msg(kind, seq int) api.Msg { return api.Msg{Kind: kind, Client: 1, Epoch: 1, Seq: seq} }

// called is a server with the client 1's transaction under way, and calls done.
func called(t *testing.T, k api.Keep, seq int, l ...api.Call) (api.Keep, api.Msg) {
	t.Helper()
	stamp := k.H.S.Stamp
	k = says(t, k, msg(api.MBegin, seq), api.OK)
	for i, c := range l {
		k = says(t, k, api.Msg{Kind: api.MCall, Client: 1, Epoch: 1, Seq: seq, N: i + 1, Stamp: stamp, C: c}, api.OK)
	}
	return k, api.Msg{Kind: api.MCommit, Client: 1, Epoch: 1, Seq: seq, N: len(l), Stamp: stamp}
}

// committed is a server with the client 1's transaction committed.
func committed(t *testing.T, k api.Keep, seq int, l ...api.Call) api.Keep {
	t.Helper()
	k, m := called(t, k, seq, l...)
	return says(t, k, m, api.OK)
}

func create(name string) api.Call { return api.Call{Kind: api.CCreate, Ino: 1, Name: name} }

func write(ino int, text string) api.Call { return api.Call{Kind: api.CWrite, Ino: ino, Text: text} }

// texts are a keeper's records.
func texts(t *testing.T, k api.Keep) []string {
	t.Helper()
	l, e := redo.Texts(k.D, keep.Ring(k.D), k.L)
	if e != api.OK {
		t.Fatal(e)
	}
	return l
}

// alike: do two servers show the same last, and know the same decisions?
func alike(a, b api.Host) bool {
	return a.S.Stamp == b.S.Stamp && tree.Same(last(a), last(b)) && table.Same(a.Rows, b.Rows)
}

func TestRing(t *testing.T) { // P17.1
	for _, many := range []int{1, 2, 9, 4096} {
		if r := keep.Ring(blank(t, many)); r != (api.Ring{From: 1, Many: many - 1}) {
			t.Error(r)
		}
	}
}

func TestNew(t *testing.T) { // P17.1
	d := blank(t, 4)
	for i := range 4 {
		d.Kept[i] = sector(fmt.Sprint("old ", i))
	}
	d, _ = disk.Write(d, 3, "newer")
	k, e := keep.New(d, 7)
	h, _ := host.New(7)
	want := api.Keep{D: api.Disk{Kept: []string{head(0, 1), sector(""), sector("old 2"), sector("newer")}}, L: api.Log{First: 1}, H: h}
	if e != api.OK || !keep.Same(k, want) || !keep.Right(k) {
		t.Error(k, e)
	}
	short := blank(t, 2)
	short.Kept[1] = "short"
	off := blank(t, 2)
	off.Off = true
	for i, x := range []struct {
		d     api.Disk
		lease int
		e     api.Errno
	}{
		{blank(t, 1), 5, api.ErrArg}, {api.Disk{}, 5, api.ErrArg}, {short, 5, api.ErrArg}, {blank(t, 2), 0, api.ErrArg}, {blank(t, 2), -1, api.ErrArg}, {off, 0, api.ErrArg}, {off, 5, api.ErrDead},
	} {
		if k, e := keep.New(x.d, x.lease); e != x.e || !keep.Same(k, api.Keep{}) {
			t.Error(i, k, e)
		}
		if k, e := keep.Recover(x.d, x.lease); e != x.e || !keep.Same(k, api.Keep{}) {
			t.Error(i, k, e)
		}
	}
	if k, e := keep.New(blank(t, 2), 1); e != api.OK || !keep.Right(k) {
		t.Error(k, e)
	}
}

func file(ino int, text string) api.Node {
	return api.Node{Ino: ino, Kind: api.File, Links: 1, Text: text}
}

func TestChangeAndWhole(t *testing.T) { // P17.1
	m := api.Msg{Kind: 9, Client: 1, Epoch: 2, Seq: 300, N: 5, Stamp: 6}
	if s := keep.Change(m, nil, 7); s != "C\x02\x04\xd8\x04\x0e\x00" {
		t.Errorf("%x", s)
	}
	l := []api.Change{{Ino: 3, Gone: true}, {Ino: 2, Node: file(2, "text")}, {Ino: 5, Gone: true, Node: file(5, "not told")}}
	if s := keep.Change(m, l, -1); s != "C"+numbers(1, 2, 300, -1, 3)+numbers(3, 1)+numbers(2, 0)+octet.Text(node.Text(file(2, "text")))+numbers(5, 1) {
		t.Errorf("%x", s)
	}
	k := committed(t, fresh(t, 20), 1, create("a"), write(2, "text"))
	rows := []api.Row{{Client: 1, Epoch: 1, L: []api.Decision{{Seq: 1, Yes: true}}}}
	if s := keep.Whole(k.H); s != "W"+numbers(2)+octet.Text(tree.Text(last(k.H)))+table.Text(rows) {
		t.Errorf("%x", s)
	}
	h, _ := host.New(1)
	if s := keep.Whole(h); s != "W\x02\x07\x04\x01\x02\x04\x00\x00\x00\x00" {
		t.Errorf("%x", s)
	}
}

func TestRight(t *testing.T) { // P17.1
	one := func() api.Keep { return committed(t, fresh(t, 9), 1, create("a")) }
	if !keep.Right(one()) {
		t.Error("right")
	}
	for i, change := range []func(k *api.Keep){
		func(k *api.Keep) { k.H.Lease = 0 }, func(k *api.Keep) { k.D.Off = true }, func(k *api.Keep) { k.D.Kept = k.D.Kept[:1]; k.L = api.Log{} }, func(k *api.Keep) { k.D.Kept[3] = "" }, func(k *api.Keep) { k.L.Used++ }, func(k *api.Keep) { k.L.Many++ }, func(k *api.Keep) { k.L.First++ }, func(k *api.Keep) { k.L.At = 8 }, func(k *api.Keep) { k.D.Kept[1] = sector("") },
	} {
		k := one()
		k.D.Kept = slices.Clone(k.D.Kept)
		if change(&k); keep.Right(k) {
			t.Error(i)
		}
	}
}

func TestSame(t *testing.T) { // P17.1
	one := func() api.Keep {
		k := committed(t, fresh(t, 9), 1, create("a"))
		k.D, _ = disk.Write(k.D, 8, "later")
		k.D.Kept = slices.Clone(k.D.Kept)
		return k
	}
	for i, change := range []func(k *api.Keep){
		func(k *api.Keep) { k.H.Now++ }, func(k *api.Keep) { k.D.Off = true }, func(k *api.Keep) { k.D.Kept[8] = sector("x") }, func(k *api.Keep) { k.D.W = nil }, func(k *api.Keep) { k.D.W[0].At = 7 }, func(k *api.Keep) { k.D.W[0].S = sector("x") },
		func(k *api.Keep) { k.L.At++ }, func(k *api.Keep) { k.L.Used++ }, func(k *api.Keep) { k.L.First++ }, func(k *api.Keep) { k.L.Many++ },
	} {
		k := one()
		if !keep.Same(k, one()) {
			t.Fatal("the same")
		}
		change(&k)
		if keep.Same(k, one()) || keep.Same(one(), k) {
			t.Error(i)
		}
	}
}

// based is a server with /a (2) and /d (3), and a decision of (1, 1, 1).
func based(t *testing.T) api.Host {
	t.Helper()
	return committed(t, fresh(t, 30), 1, create("a"), api.Call{Kind: api.CMkdir, Ino: 1, Name: "d"}, write(2, "text")).H
}

func TestPlayCommit(t *testing.T) { // P17.2
	h := based(t)
	m := api.Msg{Client: 4, Epoch: 2, Seq: 3}
	l := []api.Change{{Ino: 2, Node: file(2, "other")}}
	want := h
	want.S = store.Install(h.S, l, 4)
	want.Rows, _, _ = table.Decide(h.Rows, 4, 2, 3, true)
	if g, e := keep.Play(h, keep.Change(m, l, 4)); e != api.OK || !host.Same(g, want) {
		t.Error(g, e)
	}
	// Twice the same number: the last one counts.
	twice := []api.Change{{Ino: 2, Node: file(2, "first")}, l[0]}
	if g, e := keep.Play(h, keep.Change(m, twice, 4)); e != api.OK || !host.Same(g, want) {
		t.Error(g, e)
	}
	want.S = store.Install(h.S, nil, 9)
	if g, e := keep.Play(h, keep.Change(m, nil, 9)); e != api.OK || !host.Same(g, want) {
		t.Error(g, e)
	}
	want.S = h.S
	for _, next := range []int{4, 3, 0, -7} {
		if g, e := keep.Play(h, keep.Change(m, nil, next)); e != api.OK || !host.Same(g, want) {
			t.Error(next, g, e)
		}
	}
	// What is gone, and what names it no more.
	top := api.Node{Ino: 1, Kind: api.Dir, L: []api.Entry{{Name: "d", Ino: 3}}}
	off := []api.Change{{Ino: 1, Node: top}, {Ino: 2, Gone: true}}
	want.S = store.Install(h.S, off, 4)
	if g, e := keep.Play(h, keep.Change(m, off, 4)); e != api.OK || !host.Same(g, want) || len(last(g).L) != 2 {
		t.Error(g, e)
	}
	// What was decided already stays so; the changes are installed.
	want = h
	want.S = store.Install(h.S, l, 4)
	if g, e := keep.Play(h, keep.Change(api.Msg{Client: 1, Epoch: 1, Seq: 1}, l, 4)); e != api.OK || !host.Same(g, want) {
		t.Error(g, e)
	}
}

func TestPlayRefusalForgetting(t *testing.T) { // P17.2
	h := based(t)
	want := h
	want.Rows, _, _ = table.Decide(h.Rows, 4, 2, 3, false)
	if g, e := keep.Play(h, "N"+numbers(4, 2, 3)); e != api.OK || !host.Same(g, want) {
		t.Error(g, e)
	}
	want.Rows, _ = table.Forget(h.Rows, 1, 1, 8)
	if g, e := keep.Play(h, "F"+numbers(1, 1, 8)); e != api.OK || !host.Same(g, want) {
		t.Error(g, e)
	}
}

func TestPlayWhole(t *testing.T) { // P17.2
	from := based(t)
	h, _ := host.New(9)
	h.Now = 3
	g, e := keep.Play(h, keep.Whole(from))
	f := last(from)
	want := h
	want.S = api.Store{Nexts: []api.Count{{Stamp: 2, Next: 4}}, Stamp: 2}
	for _, n := range f.L {
		want.S.L = append(want.S.L, api.Chain{Ino: n.Ino, L: []api.Ver{{Stamp: 2, Node: n}}})
	}
	want.Rows = from.Rows
	if e != api.OK || !host.Same(g, want) || !host.Right(g) {
		t.Error(g, e)
	}
	text := func(stamp int, f api.FS, rows string) string {
		return "W" + numbers(stamp) + octet.Text(tree.Text(f)) + rows
	}
	if g, e := keep.Play(h, text(1<<62, f, "\x00")); e != api.OK || g.S.Stamp != 1<<62 || !tree.Same(last(g), f) || len(g.Rows) != 0 {
		t.Error(e)
	}
	bad := api.FS{L: f.L[:2], Next: 4}
	for i, s := range []string{
		text(0, f, "\x00"), text(-1, f, "\x00"), text(1<<62+1, f, "\x00"), text(math.MaxInt, f, "\x00"), text(2, bad, "\x00"), text(2, api.FS{Next: 1}, "\x00"), text(2, f, ""), text(2, f, "\x00z"), text(2, f, "\x01"), text(2, f, table.Text([]api.Row{{Client: -1, Epoch: 1}})),
		"W" + numbers(2) + octet.Text(tree.Text(f)+"z") + "\x00", "W" + numbers(2) + tree.Text(f) + "\x00", "W" + numbers(2), "W", "W\x80\x00",
	} {
		if g, e := keep.Play(from, s); e != api.ErrForm || !host.Same(g, from) {
			t.Error(i, e)
		}
	}
}

func TestPlayRefuses(t *testing.T) { // P17.2
	h := based(t)
	m := api.Msg{Client: 4, Epoch: 2, Seq: 3}
	who := numbers(4, 2, 3)
	text := func(n api.Node) string { return octet.Text(node.Text(n)) }
	bad := file(2, "x")
	bad.Links = 99
	right := keep.Change(m, []api.Change{{Ino: 2, Node: file(2, "other")}}, 4)
	l := []string{
		"", "X", "c" + who, "C", "N", "F", "N" + who + "z", "F" + numbers(1, 1, 8) + "z", "N" + numbers(4, 2), "F" + numbers(1, 1), "N" + numbers(4, 2) + "\x80\x00",
		"N" + numbers(-1, 2, 3), "N" + numbers(4, 0, 3), "N" + numbers(4, 2, 0), "F" + numbers(4, 2, 3), "F" + numbers(1, 2, 3), "F" + numbers(1, 1, 0), "F" + numbers(-1, 1, 1),
		"C" + who, "C" + who + numbers(4), "C" + who + numbers(4, -1), "C" + who + numbers(4, 1), "C" + who + numbers(4, math.MaxInt), "C" + who + numbers(4, 0) + "z", "C" + numbers(-1, 2, 3, 4, 0), "C" + numbers(4, 2, 0, 4, 0),
		"C" + who + numbers(4, 1, 2, 0) + text(bad), "C" + who + numbers(4, 1, 2, 0) + text(file(3, "")), "C" + who + numbers(4, 1, 2, 2) + text(file(2, "x")), "C" + who + numbers(4, 1, 2, -1), "C" + who + numbers(4, 1, 0, 1), "C" + who + numbers(4, 1, -2, 1), "C" + who + numbers(4, 1, 0, 0) + text(file(2, "")),
		"C" + who + numbers(4, 1, 2, 0) + octet.Text(node.Text(file(2, "x"))+"z"), "C" + who + numbers(4, 1, 2, 0) + node.Text(file(2, "x")), "C" + who + numbers(4, 2, 2, 0) + text(file(2, "x")), "C" + who + numbers(4, 0, 2, 0) + text(file(2, "x")),
		right + "z", right[:len(right)-1],
		keep.Change(m, []api.Change{{Ino: 2, Gone: true}}, 4), keep.Change(m, []api.Change{{Ino: 1, Gone: true}}, 4), keep.Change(m, []api.Change{{Ino: 9, Node: file(9, "")}}, 10), keep.Change(m, []api.Change{{Ino: 2, Node: file(2, "x")}, {Ino: 3, Gone: true}}, 4),
	}
	for i, s := range l {
		if g, e := keep.Play(h, s); e != api.ErrForm || !host.Same(g, h) {
			t.Errorf("%d: %x: %d", i, s, e)
		}
	}
	stale := h
	stale.Rows = []api.Row{{Client: 4, Epoch: 3, Done: 5}}
	for i, s := range []string{right, "N" + who, "F" + who, "N" + numbers(4, 3, 5), keep.Change(api.Msg{Client: 4, Epoch: 3, Seq: 1}, nil, 4)} {
		if g, e := keep.Play(stale, s); e != api.ErrForm || !host.Same(g, stale) {
			t.Error(i, e)
		}
	}
}

func TestHandle(t *testing.T) { // P17.3
	k := fresh(t, 30)
	k, m := called(t, k, 1, create("a"), write(2, "text"))
	if len(k.D.W) != 0 || k.L.Many != 0 {
		t.Error("a record of nothing")
	}
	h, want := host.Handle(k.H, m)
	g, r := keep.Handle(k, m)
	if !wire.Same(r, want) || !host.Same(g.H, h) {
		t.Error(r)
	}
	f := last(h)
	s := keep.Change(m, ops.Changes(tree.New(), f), 3)
	d, l, _ := redo.Append(k.D, keep.Ring(k.D), k.L, s)
	d, _ = disk.Flush(d)
	if !keep.Same(g, api.Keep{D: d, L: l, H: h}) || len(g.D.W) != 0 {
		t.Error(g.L, texts(t, g))
	}
	if again := says(t, g, m, api.OK); !keep.Same(again, g) {
		t.Error("a record of what was known")
	}
	// An idle one is told too, without changes.
	g = committed(t, g, 2, api.Call{Kind: api.CReaddir, Ino: 1})
	if x := texts(t, g); len(x) != 2 || x[1] != keep.Change(msg(0, 2), nil, 3) || len(g.D.W) != 0 {
		t.Errorf("%q", x)
	}
	// Refusals: flushed.
	g = says(t, g, msg(api.MAsk, 3), api.ErrAgain)
	g = says(t, g, msg(api.MAbort, 4), api.ErrAgain)
	g = says(t, g, msg(api.MCommit, 5), api.ErrAgain)
	if x := texts(t, g); len(x) != 5 || x[2] != "N"+numbers(1, 1, 3) || x[3] != "N"+numbers(1, 1, 4) || x[4] != "N"+numbers(1, 1, 5) || len(g.D.W) != 0 {
		t.Errorf("%q", x)
	}
	// What is forgotten: not flushed; and no record, if nothing is.
	g = says(t, g, msg(api.MAck, 2), api.OK)
	if x := texts(t, g); len(x) != 6 || x[5] != "F"+numbers(1, 1, 2) || len(g.D.W) == 0 {
		t.Errorf("%q", x)
	}
	for m, e := range map[api.Msg]api.Errno{msg(api.MAck, 1): api.OK, msg(api.MAck, 2): api.OK, msg(api.MAck, 0): api.ErrArg, {Kind: api.MAck, Client: 3, Epoch: 1, Seq: 1}: api.ErrNone, msg(77, 9): api.ErrArg, msg(api.MAsk, 2): api.ErrForgot} {
		if x := says(t, g, m, e); !keep.Same(x, g) {
			t.Error("it changed", m)
		}
	}
	g = says(t, g, msg(api.MAsk, 6), api.ErrAgain)
	if len(g.D.W) != 0 || g.L.Many != 7 {
		t.Error(g.L)
	}
}

func TestHandleRefused(t *testing.T) { // P17.3
	unchanged := func(k api.Keep, m api.Msg, e api.Errno) {
		t.Helper()
		g, r := keep.Handle(k, m)
		want := api.Rsp{Kind: m.Kind, Client: m.Client, Epoch: m.Epoch, Seq: m.Seq, N: m.N, R: api.Reply{E: e}}
		if !wire.Same(r, want) || !keep.Same(g, k) {
			t.Error(r, want)
		}
	}
	// Too great for a record.
	k, m := called(t, fresh(t, 200), 1, create("a"), write(2, strings.Repeat("x", 4096)))
	unchanged(k, m, api.ErrBig)
	unchanged(k, msg(api.MAsk, 1), api.ErrBusy)
	k = says(t, k, msg(api.MAbort, 1), api.ErrAgain)
	// No room in the ring: one sector is used up.
	k = says(t, fresh(t, 2), msg(api.MAsk, 1), api.ErrAgain)
	k, m = called(t, k, 2, create("a"))
	unchanged(k, m, api.ErrRoom)
	unchanged(k, msg(api.MAsk, 3), api.ErrRoom)
	unchanged(k, msg(api.MAck, 1), api.ErrRoom)
	unchanged(k, msg(api.MAsk, 1), api.ErrAgain)
}

func TestPack(t *testing.T) { // P17.4
	k := fresh(t, 30)
	k = committed(t, k, 1, create("a"), write(2, "one"))
	k = committed(t, k, 2, write(2, "two"))
	k = says(t, k, msg(api.MAck, 1), api.OK)
	k = says(t, k, api.Msg{Kind: api.MBegin, Client: 2, Epoch: 1, Seq: 1}, api.OK)
	g, e := keep.Pack(k)
	if e != api.OK || !keep.Right(g) {
		t.Fatal(e)
	}
	swept := host.Sweep(k.H)
	place := k.L.At + k.L.Used
	need := redo.Need(keep.Whole(swept))
	if !host.Same(g.H, swept) || g.L != (api.Log{At: place, Used: need, First: 4, Many: 1}) || len(g.D.W) != 0 || g.D.Off {
		t.Error(g.L)
	}
	if x := texts(t, g); len(x) != 1 || x[0] != keep.Whole(swept) {
		t.Errorf("%q", x)
	}
	if g.D.Kept[0] != head(uint64(place), 4) {
		t.Errorf("%x", g.D.Kept[0])
	}
	for at := 1; at < 30; at++ {
		used := at > place && at <= place+need
		if blank := g.D.Kept[at] == sector(""); blank == used {
			t.Error(at, "isn't cleared, or is")
		}
	}
	if r, e := keep.Recover(g.D, 5); e != api.OK || !alike(r.H, g.H) || r.L != g.L || !slices.Equal(r.D.Kept, g.D.Kept) {
		t.Error(e)
	}
	// Round the ring, again and again.
	for i := range 20 {
		g = committed(t, g, i+3, write(2, fmt.Sprint("round ", i)))
		x, e := keep.Pack(g)
		if e != api.OK || !keep.Right(x) {
			t.Fatal(i, e)
		}
		r, e := keep.Recover(x.D, 5)
		if e != api.OK || !alike(r.H, g.H) {
			t.Fatal(i, e)
		}
		g = x
	}
	// A head whose place and number need more than a byte.
	far := blank(t, 600)
	far.Kept[0] = head(300, 0x8877665544332211)
	g, e = keep.Recover(far, 5)
	if e != api.OK || g.L != (api.Log{At: 300, First: 0x8877665544332211}) {
		t.Error(g.L, e)
	}
	g = says(t, g, msg(api.MAsk, 1), api.ErrAgain)
	if g, e = keep.Pack(g); e != api.OK || g.L.At != 301 || g.L.First != 0x8877665544332212 || g.D.Kept[0] != head(301, 0x8877665544332212) {
		t.Error(g.L, e)
	}
	// No room; too great.
	full := says(t, says(t, fresh(t, 3), msg(api.MAsk, 1), api.ErrAgain), msg(api.MAsk, 2), api.ErrAgain)
	if x, e := keep.Pack(full); e != api.ErrRoom || !keep.Same(x, full) {
		t.Error(e)
	}
	great := fresh(t, 300)
	for i := range 3 {
		great = committed(t, great, i+1, create(fmt.Sprint("n", i)), write(2+i, strings.Repeat("x", 1500)))
	}
	great.H = host.Tick(great.H)
	if x, e := keep.Pack(great); e != api.ErrBig || !keep.Same(x, great) {
		t.Error(e)
	}
}

func TestRecover(t *testing.T) { // P17.4
	k := fresh(t, 9)
	if r, e := keep.Recover(k.D, 5); e != api.OK || !keep.Same(r, k) {
		t.Error(r, e)
	}
	k = committed(t, fresh(t, 30), 1, create("a"), write(2, "text"))
	k = says(t, k, msg(api.MAsk, 2), api.ErrAgain)
	k = says(t, k, api.Msg{Kind: api.MBegin, Client: 2, Epoch: 1, Seq: 1}, api.OK)
	k.H = host.Tick(k.H)
	d := k.D
	for _, at := range []int{k.L.Used + 1, k.L.Used + 3, 29} {
		d, _ = disk.Write(d, at, "left over")
	}
	r, e := keep.Recover(d, 8)
	if e != api.OK || !alike(r.H, k.H) || len(r.H.Opens) != 0 || r.H.Now != 0 || r.H.Lease != 8 || r.L != k.L || !slices.Equal(r.D.Kept, k.D.Kept) || len(r.D.W) != 0 || !keep.Right(r) {
		t.Error(r, e)
	}
	for i, x := range []struct {
		head string
		e    api.Errno
	}{
		{sector(""), api.ErrSum}, {head(0, 1)[:19] + "\x01", api.ErrSum}, {"\x01" + head(0, 1)[1:], api.ErrSum}, {head(0, 1)[:20] + "behind", api.OK}, {head(29, 1), api.ErrForm}, {head(28, 1), api.OK}, {head(math.MaxUint64, 1), api.ErrForm}, {head(1<<63, 1), api.ErrForm}, {head(1<<32, 1), api.ErrForm}, {head(0, 2), api.OK},
	} {
		d, _ := disk.Write(k.D, 0, x.head)
		r, e := keep.Recover(d, 5)
		if e != x.e || e != api.OK && !keep.Same(r, api.Keep{}) || e == api.OK && !keep.Right(r) {
			t.Error(i, e)
		}
	}
	for i, s := range []string{"", "odd", "N" + numbers(-1, 1, 1), "N" + numbers(1, 1, 9) + "z"} {
		d, _, _ := redo.Append(k.D, keep.Ring(k.D), k.L, s)
		if r, e := keep.Recover(d, 5); e != api.ErrForm || !keep.Same(r, api.Keep{}) {
			t.Error(i, e)
		}
	}
	off := k.D
	off.Off = true
	if r, e := keep.Recover(off, 5); e != api.ErrDead || !keep.Same(r, api.Keep{}) {
		t.Error(e)
	}
	d, _ = disk.Write(k.D, 0, sector(""))
	d.Off = true
	if _, e := keep.Recover(d, 5); e != api.ErrDead {
		t.Error(e)
	}
	if _, e := keep.Recover(d, 0); e != api.ErrArg {
		t.Error(e)
	}
	// From a place in the middle, with its number.
	at := redo.Need(texts(t, k)[0])
	d, _ = disk.Write(k.D, 0, head(uint64(at), 2))
	r, e = keep.Recover(d, 5)
	if e != api.OK || r.L != (api.Log{At: at, Used: 1, First: 2, Many: 1}) || !tree.Same(last(r.H), tree.New()) || !table.Same(r.H.Rows, []api.Row{{Client: 1, Epoch: 1, L: []api.Decision{{Seq: 2}}}}) {
		t.Error(r.L, e)
	}
	for i, s := range r.D.Kept {
		if i > 0 && i != at+1 && s != sector("") {
			t.Error(i, "isn't cleared")
		}
	}
}

func TestWhatFollows(t *testing.T) { // P17.5
	r := rand.New(rand.NewSource(19))
	names := []string{"a", "b", "c"}
	crashes, packs, lost := 0, 0, 0
	for range 40 {
		k := fresh(t, 20+r.Intn(100))
		// What may be found behind a crash: the rows of the last flush, or those of what was forgotten since.
		may := [][]api.Row{nil}
		for range 150 {
			switch r.Intn(20) {
			case 0:
				k.H = host.Tick(k.H)
			case 1:
				x, e := keep.Pack(k)
				if e == api.OK {
					packs++
					may = [][]api.Row{x.H.Rows}
				} else if !keep.Same(x, k) {
					t.Fatal("refused, and changed")
				}
				k = x
			case 2:
				kept := make([]bool, r.Intn(len(k.D.W)+2))
				for i := range kept {
					kept[i] = r.Intn(2) == 0
				}
				x, e := keep.Recover(disk.Crash(k.D, kept), 5)
				if e != api.OK || !keep.Right(x) || !tree.Same(last(x.H), last(k.H)) {
					t.Fatal("lost behind a crash", e)
				}
				if !slices.ContainsFunc(may, func(l []api.Row) bool { return table.Same(l, x.H.Rows) }) {
					t.Fatal("other rows behind a crash", x.H.Rows, may)
				}
				if len(may) > 1 {
					lost++
				}
				crashes++
				k, may = x, [][]api.Row{x.H.Rows}
			default:
				m := api.Msg{Kind: 1 + r.Intn(6), Client: r.Intn(3), Epoch: 1, Seq: 1 + r.Intn(30), Stamp: k.H.S.Stamp}
				if o, ok := host.Find(k.H, m.Client); ok && r.Intn(5) > 0 {
					m.Kind, m.Epoch, m.Seq, m.Stamp, m.N = []int{api.MCall, api.MCall, api.MCommit}[r.Intn(3)], o.Epoch, o.Seq, o.T.Stamp, o.N
					if m.Kind == api.MCall {
						m.N++
					}
				}
				if m.Kind == api.MAck {
					m.Seq = 1 + r.Intn(10)
				}
				m.C = api.Call{Kind: 1 + r.Intn(15), Ino: 1 + r.Intn(4), To: 1 + r.Intn(4), Many: r.Intn(5), Name: names[r.Intn(3)], Name2: names[r.Intn(3)], Text: strings.Repeat("x", r.Intn(90))}
				x, _ := keep.Handle(k, m)
				if !keep.Right(x) {
					t.Fatal("not right behind", m)
				}
				if !table.Same(x.H.Rows, k.H.Rows) {
					if m.Kind != api.MAck {
						may = nil
					}
					may = append(may, x.H.Rows)
				}
				k = x
			}
		}
	}
	if crashes < 50 || packs < 50 || lost < 3 {
		t.Error("too few", crashes, packs, lost)
	}
}

func TestReplayedLikeServed(t *testing.T) { // P17.5
	s := store.New()
	k := fresh(t, 60)
	for i, l := range [][]api.Call{{create("a"), write(2, "x")}, {create("b"), {Kind: api.CRemove, Ino: 1, Name: "b"}}, {{Kind: api.CRead, Ino: 2}}, {create("g"), create("h")}, {{Kind: api.CRemove, Ino: 1, Name: "g"}}, {{Kind: api.CRename, Ino: 1, Name: "a", To: 1, Name2: "c"}}} {
		k = committed(t, k, i+1, l...)
		s, _ = trans.Run(s, l)
		r, e := keep.Recover(disk.Crash(k.D, nil), 5)
		if e != api.OK || !store.Same(r.H.S, s) || !store.Same(k.H.S, s) || !table.Same(r.H.Rows, k.H.Rows) {
			t.Error(i, e)
		}
	}
}
