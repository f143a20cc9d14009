package wire_test

import (
	"math"
	"math/rand"
	"slices"
	"strings"
	"testing"

	"copyhold/api"
	"copyhold/octet"
	"copyhold/seal"
	"copyhold/wire"
)

func numbers(l ...int) string {
	s := ""
	for _, n := range l {
		s += octet.Num(octet.Fold(n))
	}
	return s
}

func long(many int) string { return strings.Repeat("x", many) }

const bad = "\x80\x00" // no short number

// calls are some of all kinds of fields.
func calls() []api.Call {
	return []api.Call{
		{},
		{Kind: 1, Ino: 2, To: 3, At: 4, Many: 5, Name: "a", Name2: "bc", Text: "def"},
		{Kind: -1, Ino: math.MinInt, To: math.MaxInt, At: -64, Many: 1 << 40, Name: "\x00", Name2: "/", Text: "\xff"},
		{Kind: 300, Name: long(4096), Name2: long(4096), Text: long(4096)},
	}
}

func msgs() []api.Msg {
	l := []api.Msg{{}, {Kind: 1, Client: 2, Epoch: 3, Seq: 4, N: 5, Stamp: 6}, {Kind: -1, Client: -2, Epoch: math.MinInt, Seq: math.MaxInt, N: -300, Stamp: 1 << 62}}
	for i, c := range calls() {
		l = append(l, api.Msg{Kind: i, Stamp: -i, C: c})
	}
	return l
}

func rsps() []api.Rsp {
	return []api.Rsp{
		{},
		{Kind: 1, Client: 2, Epoch: 3, Seq: 4, N: 5, R: api.Reply{E: 6, A: 7, B: 8, N: 9, Text: "t", Names: []string{"a", "", "b"}}},
		{Kind: -1, Client: -2, Epoch: -3, Seq: -4, N: -1, R: api.Reply{E: -6, A: math.MinInt, B: math.MaxInt, N: -9, Text: long(4096), Names: slices.Repeat([]string{long(32)}, 256)}},
		{N: 64, R: api.Reply{E: api.ErrBusy, Names: []string{"\x00\xff"}}},
	}
}

func TestCall(t *testing.T) { // P15.1
	if s := wire.Call(api.Call{}); s != strings.Repeat("\x00", 8) {
		t.Errorf("%x", s)
	}
	if s := wire.Call(calls()[1]); s != "\x02\x04\x06\x08\x0a\x01a\x02bc\x03def" {
		t.Errorf("%x", s)
	}
	for i, c := range calls() {
		s := wire.Call(c)
		if want := numbers(c.Kind, c.Ino, c.To, c.At, c.Many) + octet.Text(c.Name) + octet.Text(c.Name2) + octet.Text(c.Text); s != want {
			t.Errorf("%d: %x", i, s)
		}
		for _, z := range []string{"", "z", "\x00", "\xff\xff"} {
			if x, rest, e := wire.TakeCall(s + z); x != c || rest != z || e != api.OK {
				t.Error(i, rest, e)
			}
		}
	}
}

func TestTakeCallRefuses(t *testing.T) { // P15.1
	parts := []string{"\x02", "\x04", "\x06", "\x08", "\x0a", "\x01a", "\x02bc", "\x03def"}
	for i := range parts {
		head := strings.Join(parts[:i], "")
		for _, x := range []struct {
			s string
			e api.Errno
		}{{head, api.ErrMore}, {head + "\x80", api.ErrMore}, {head + bad, api.ErrForm}, {head + "\xff\xff\xff\xff\xff\xff\xff\xff\xff\x02", api.ErrForm}} {
			if c, rest, e := wire.TakeCall(x.s); c != (api.Call{}) || rest != "" || e != x.e {
				t.Errorf("%d: %x: %v %q %d", i, x.s, c, rest, e)
			}
		}
		if i < 5 {
			continue
		}
		for s, no := range map[string]api.Errno{octet.Num(4097): api.ErrBig, octet.Num(4096) + long(4095): api.ErrMore, octet.Num(math.MaxUint64): api.ErrBig, octet.Text(long(4097)): api.ErrBig, "\x02a": api.ErrMore} {
			if c, rest, e := wire.TakeCall(head + s); c != (api.Call{}) || rest != "" || e != no {
				t.Error(i, len(s), rest, e)
			}
		}
	}
}

func TestSame(t *testing.T) { // P15.1
	one := func() api.Rsp { return rsps()[1] }
	for i, change := range []func(r *api.Rsp){
		func(r *api.Rsp) { r.Kind++ }, func(r *api.Rsp) { r.Client++ }, func(r *api.Rsp) { r.Epoch++ }, func(r *api.Rsp) { r.Seq++ }, func(r *api.Rsp) { r.N++ },
		func(r *api.Rsp) { r.R.E++ }, func(r *api.Rsp) { r.R.A++ }, func(r *api.Rsp) { r.R.B++ }, func(r *api.Rsp) { r.R.N++ }, func(r *api.Rsp) { r.R.Text = "u" },
		func(r *api.Rsp) { r.R.Names = nil }, func(r *api.Rsp) { r.R.Names[2] = "c" }, func(r *api.Rsp) { r.R.Names = r.R.Names[:2] },
	} {
		r := one()
		if !wire.Same(r, one()) {
			t.Fatal("the same")
		}
		change(&r)
		if wire.Same(r, one()) || wire.Same(one(), r) {
			t.Error(i, r)
		}
	}
	if !wire.Same(api.Rsp{}, api.Rsp{R: api.Reply{Names: []string{}}}) {
		t.Error("lists without elements")
	}
}

func TestLaid(t *testing.T) { // P15.2
	for i, m := range msgs() {
		if s := wire.Msg(m); s != seal.Put("m"+numbers(m.Kind, m.Client, m.Epoch, m.Seq, m.N, m.Stamp)+wire.Call(m.C)) {
			t.Errorf("%d: %x", i, s)
		}
	}
	if s := wire.Msg(api.Msg{Kind: 1, Client: 2, Epoch: 3, Seq: 4, N: 5, Stamp: 6}); s != seal.Put("m\x02\x04\x06\x08\x0a\x0c"+strings.Repeat("\x00", 8)) {
		t.Errorf("%x", s)
	}
	for i, r := range rsps() {
		if s := wire.Rsp(r); s != seal.Put("r"+numbers(r.Kind, r.Client, r.Epoch, r.Seq, r.N, int(r.R.E), r.R.A, r.R.B, r.R.N)+octet.Text(r.R.Text)+octet.List(r.R.Names)) {
			t.Errorf("%d: %x", i, s)
		}
	}
	if s := wire.Rsp(rsps()[1]); s != seal.Put("r\x02\x04\x06\x08\x0a\x0c\x0e\x10\x12\x01t\x03\x01a\x00\x01b") {
		t.Errorf("%x", s)
	}
}

func TestTakeRefuses(t *testing.T) { // P15.2
	msg := "m" + strings.Repeat("\x00", 14)
	rsp := "r" + strings.Repeat("\x00", 11)
	both := func(s string, m, r api.Errno) {
		t.Helper()
		if x, e := wire.TakeMsg(s); x != (api.Msg{}) || e != m {
			t.Errorf("TakeMsg(%.40x): %v %d, not %d", s, x, e, m)
		}
		if x, e := wire.TakeRsp(s); !wire.Same(x, api.Rsp{}) || e != r {
			t.Errorf("TakeRsp(%.40x): %v %d, not %d", s, x, e, r)
		}
	}
	both("", api.ErrMore, api.ErrMore)
	both("m\x00\x00", api.ErrMore, api.ErrMore)
	both(msg, api.ErrSum, api.ErrSum)
	both(rsp, api.ErrSum, api.ErrSum)
	both(seal.Put(""), api.ErrForm, api.ErrForm)
	both(seal.Put("M"+msg[1:]), api.ErrForm, api.ErrForm)
	both(seal.Put(msg+"z"), api.ErrForm, api.ErrForm)
	both(seal.Put(rsp+"z"), api.ErrForm, api.ErrForm)
	for i := 1; i < len(msg); i++ {
		both(seal.Put(msg[:i]), api.ErrMore, api.ErrForm)
		both(seal.Put(msg[:i]+bad), api.ErrForm, api.ErrForm)
	}
	for i := 1; i < len(rsp); i++ {
		both(seal.Put(rsp[:i]), api.ErrForm, api.ErrMore)
		both(seal.Put(rsp[:i]+bad), api.ErrForm, api.ErrForm)
	}
	for i := range 3 {
		both(seal.Put(msg[:12+i]+octet.Num(4097)), api.ErrBig, api.ErrForm)
		both(seal.Put(msg[:12+i]+octet.Num(4096)), api.ErrMore, api.ErrForm)
	}
	both(seal.Put(rsp[:10]+octet.Num(4097)), api.ErrForm, api.ErrBig)
	both(seal.Put(rsp[:10]+octet.Num(4096)), api.ErrForm, api.ErrMore)
	both(seal.Put(rsp[:11]+octet.Num(257)), api.ErrForm, api.ErrBig)
	both(seal.Put(rsp[:11]+octet.Num(256)), api.ErrForm, api.ErrMore)
	both(seal.Put(rsp[:11]+"\x01"+octet.Num(33)), api.ErrForm, api.ErrBig)
	both(seal.Put(rsp[:11]+"\x01"+octet.Num(32)), api.ErrForm, api.ErrMore)
}

func TestWhatFollows(t *testing.T) { // P15.3
	r := rand.New(rand.NewSource(17))
	for i, m := range msgs() {
		s := wire.Msg(m)
		if x, e := wire.TakeMsg(s); x != m || e != api.OK {
			t.Error(i, e)
		}
		if x, e := wire.TakeRsp(s); !wire.Same(x, api.Rsp{}) || e != api.ErrForm {
			t.Error(i, x, e)
		}
		for range 200 {
			b := []byte(s)
			b[r.Intn(len(b))] ^= byte(1 + r.Intn(255))
			if x, e := wire.TakeMsg(string(b)); x != (api.Msg{}) || e != api.ErrSum {
				t.Fatal(i, x, e)
			}
		}
	}
	for i, a := range rsps() {
		s := wire.Rsp(a)
		if x, e := wire.TakeRsp(s); !wire.Same(x, a) || e != api.OK {
			t.Error(i, e)
		}
		if x, e := wire.TakeMsg(s); x != (api.Msg{}) || e != api.ErrForm {
			t.Error(i, x, e)
		}
		for range 200 {
			b := []byte(s)
			b[r.Intn(len(b))] ^= byte(1 + r.Intn(255))
			if x, e := wire.TakeRsp(string(b)); !wire.Same(x, api.Rsp{}) || e != api.ErrSum {
				t.Fatal(i, x, e)
			}
		}
	}
}
