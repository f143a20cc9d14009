package seal_test

import (
	"hash/crc32"
	"math/rand"
	"strings"
	"testing"

	"copyhold/api"
	"copyhold/seal"
)

// register goes on with a register bit by bit, by the document's words.
func register(c uint32, s string) uint32 {
	for _, b := range []byte(s) {
		c ^= uint32(b)
		for i := 0; i < 8; i++ {
			off := c & 1
			c >>= 1
			if off == 1 {
				c ^= 0x82f63b78
			}
		}
	}
	return c
}

// texts are all of one byte, and longer ones.
func texts() []string {
	l := []string{"", "123456789", "\x00\x00\x00\x00", "\xff\xff\xff\xff", strings.Repeat("a", 5000)}
	for b := range 256 {
		l = append(l, string([]byte{byte(b)}))
	}
	r := rand.New(rand.NewSource(2))
	for range 200 {
		b := make([]byte, r.Intn(100))
		r.Read(b)
		l = append(l, string(b))
	}
	return l
}

func TestSum(t *testing.T) { // P2.1
	for s, c := range map[string]uint32{"": 0, "123456789": 0xe3069283, "a": 0xc1d04330, strings.Repeat("\x00", 32): 0x8a9136aa, strings.Repeat("\xff", 32): 0x62a8ab43} {
		if x := seal.Sum(s); x != c {
			t.Errorf("Sum(%q): %08x, not %08x", s, x, c)
		}
	}
	for _, s := range texts() {
		if x, y := seal.Sum(s), crc32.Checksum([]byte(s), crc32.MakeTable(crc32.Castagnoli)); x != y {
			t.Errorf("Sum(%q): %08x, not %08x", s, x, y)
		}
	}
}

func TestMore(t *testing.T) { // P2.1
	for _, c := range []uint32{0, 1, 0xff, 0x100, 0x80000000, 0xffffffff, 0x12345678} {
		if x := seal.More(c, ""); x != c {
			t.Errorf("More(%x, nothing): %x", c, x)
		}
		for _, s := range texts() {
			if x, y := seal.More(c, s), register(c, s); x != y {
				t.Errorf("More(%x, %q): %x, not %x", c, s, x, y)
			}
		}
	}
	if x := seal.More(0, "\x01"); x != register(0, "\x01") || x != 0xf26b8303 {
		t.Errorf("%x", x)
	}
}

func TestPutAndTake(t *testing.T) { // P2.2
	if s := seal.Put("123456789"); s != "123456789\x83\x92\x06\xe3" {
		t.Errorf("%x", s)
	}
	if s := seal.Put(""); s != "\x00\x00\x00\x00" {
		t.Errorf("%x", s)
	}
	for _, x := range []struct {
		s, t string
		e    api.Errno
	}{
		{"", "", api.ErrMore},
		{"\x00", "", api.ErrMore},
		{"\x00\x00\x00", "", api.ErrMore},
		{"abc", "", api.ErrMore},
		{"\x00\x00\x00\x00", "", api.OK},
		{"\x00\x00\x00\x01", "", api.ErrSum},
		{"\x01\x00\x00\x00", "", api.ErrSum},
		{"123456789\x83\x92\x06\xe3", "123456789", api.OK},
		{"123456789\xe3\x06\x92\x83", "", api.ErrSum},
		{"123456788\x83\x92\x06\xe3", "", api.ErrSum},
		{"123456789\x83\x92\x06\xe3\x00", "", api.ErrSum},
		{"123456789\x83\x92\x06", "", api.ErrSum},
	} {
		if s, e := seal.Take(x.s); s != x.t || e != x.e {
			t.Errorf("Take(%x): %q %d, not %q %d", x.s, s, e, x.t, x.e)
		}
		if ok := seal.Right(x.s); ok != (x.e == api.OK) {
			t.Errorf("Right(%x): %v", x.s, ok)
		}
	}
}

func TestWhatFollows(t *testing.T) { // P2.3
	r := rand.New(rand.NewSource(3))
	for _, s := range texts() {
		i := r.Intn(len(s) + 1)
		if x := ^seal.More(seal.More(0xffffffff, s[:i]), s[i:]); x != seal.Sum(s) {
			t.Errorf("%q behind %d: %x, not %x", s, i, x, seal.Sum(s))
		}
		p := seal.Put(s)
		if x, e := seal.Take(p); x != s || e != api.OK || !seal.Right(p) {
			t.Errorf("%q: %q %d", s, x, e)
		}
		if len(s) == 0 {
			continue
		}
		b := []byte(s)
		b[r.Intn(len(b))] ^= byte(1 + r.Intn(255))
		if seal.Sum(string(b)) == seal.Sum(s) {
			t.Errorf("%q and %q: one sum", s, b)
		}
		b = []byte(p)
		b[r.Intn(len(b))] ^= byte(1 + r.Intn(255))
		if x, e := seal.Take(string(b)); x != "" || e != api.ErrSum || seal.Right(string(b)) {
			t.Errorf("%q, spoilt: %q %d", s, x, e)
		}
	}
}
