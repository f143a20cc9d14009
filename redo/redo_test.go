package redo_test

import (
	"encoding/binary"
	"math"
	"math/rand"
	"slices"
	"strings"
	"testing"

	"copyhold/api"
	"copyhold/disk"
	"copyhold/octet"
	"copyhold/redo"
	"copyhold/seal"
)

// record is a record, laid by the document's words.
func record(n uint64, s string) string {
	return seal.Put(string(binary.LittleEndian.AppendUint64(nil, n)) + octet.Text(s))
}

// same: are two disks the same?
func same(a, b api.Disk) bool {
	return a.Off == b.Off && slices.Equal(a.Kept, b.Kept) && slices.Equal(a.W, b.W)
}

// begin is a disk, its ring behind some first sectors, and an empty log.
func begin(t *testing.T, before, many int, at int, first uint64) (api.Disk, api.Ring, api.Log) {
	t.Helper()
	d, e := disk.New(before + many)
	if e != api.OK {
		t.Fatal(e)
	}
	return d, api.Ring{From: before, Many: many}, api.Log{At: at, First: first}
}

// must appends texts.
func must(t *testing.T, d api.Disk, r api.Ring, l api.Log, texts ...string) (api.Disk, api.Log) {
	t.Helper()
	for _, s := range texts {
		var e api.Errno
		if d, l, e = redo.Append(d, r, l, s); e != api.OK {
			t.Fatalf("%d bytes: %d", len(s), e)
		}
	}
	return d, l
}

// flush keeps all.
func flush(t *testing.T, d api.Disk) api.Disk {
	t.Helper()
	d, e := disk.Flush(d)
	if e != api.OK {
		t.Fatal(e)
	}
	return d
}

func long(many int) string { return strings.Repeat("x", many) }

func TestRecordAndNeed(t *testing.T) { // P5.1
	for _, n := range []uint64{0, 1, 255, 256, 1<<40 + 7, math.MaxUint64} {
		for _, s := range []string{"", "a", long(127), long(128), long(5000), "\x00\xff"} {
			if x := redo.Record(n, s); x != record(n, s) {
				t.Errorf("Record(%d, %d bytes): %x", n, len(s), x)
			}
		}
	}
	for bytes, need := range map[int]int{0: 1, 47: 1, 51: 1, 52: 2, 115: 2, 114: 2, 116: 3, 4096: 65, 4095: 65} {
		if x := redo.Need(long(bytes)); x != need {
			t.Errorf("Need of %d bytes: %d", bytes, x)
		}
	}
	for bytes := range 300 {
		if x := redo.Need(long(bytes)); x != (len(record(0, long(bytes)))+63)/64 {
			t.Errorf("Need of %d bytes: %d", bytes, x)
		}
	}
}

func TestAppendWrites(t *testing.T) { // P5.1
	d, r, l := begin(t, 2, 4, 3, 7)
	after, m, e := redo.Append(d, r, l, long(60))
	if e != api.OK || m != (api.Log{At: 3, Used: 2, First: 7, Many: 1}) {
		t.Fatal(m, e)
	}
	x := record(7, long(60))
	x += strings.Repeat("\x00", 128-len(x))
	want := slices.Clone(d.Kept)
	want[5], want[2] = x[:64], x[64:]
	if !slices.Equal(disk.Image(after), want) {
		t.Errorf("%q", disk.Image(after))
	}
	if len(after.W) == 0 || !slices.Equal(after.Kept, d.Kept) || len(d.W) != 0 {
		t.Error("it was flushed, or what was handed in changed")
	}
	after, m = must(t, after, r, m, "b")
	if m != (api.Log{At: 3, Used: 3, First: 7, Many: 2}) {
		t.Error(m)
	}
	want[3] = record(8, "b") + strings.Repeat("\x00", 64-len(record(8, "b")))
	if !slices.Equal(disk.Image(after), want) {
		t.Errorf("%q", disk.Image(after))
	}
}

func TestAppendRefuses(t *testing.T) { // P5.1
	d, r, l := begin(t, 1, 69, 0, 1)
	d, l = must(t, d, r, l, long(4096), "a", "b", "c", "d")
	for _, x := range []struct {
		s string
		e api.Errno
	}{{"e", api.ErrRoom}, {long(4096), api.ErrRoom}, {long(4097), api.ErrBig}, {long(9999), api.ErrBig}} {
		if y, m, e := redo.Append(d, r, l, x.s); e != x.e || m != l || !same(y, d) {
			t.Error(len(x.s), e, m)
		}
		off := d
		off.Off = true
		if y, m, e := redo.Append(off, r, l, x.s); e != api.ErrDead || m != l || !same(y, off) {
			t.Error(len(x.s), e, m)
		}
	}
	d, r, l = begin(t, 1, 2, 0, 1)
	d, l = must(t, d, r, l, "a")
	if _, m, e := redo.Append(d, r, l, long(52)); e != api.ErrRoom || m != l {
		t.Error(m, e)
	}
	if _, m, e := redo.Append(d, r, l, long(51)); e != api.OK || m.Used != 2 {
		t.Error(m, e)
	}
}

func TestRight(t *testing.T) { // P5.1
	d, r, l := begin(t, 1, 5, 3, math.MaxUint64)
	d, l = must(t, d, r, l, "a", long(100), "c")
	ok := func(d api.Disk, r api.Ring, l api.Log) bool { return redo.Right(d, r, l) }
	for i, x := range []api.Log{
		l,
		{At: 3, First: 5}, {At: 0, First: 0},
		{At: 3, Used: 1, First: math.MaxUint64, Many: 1},
		{At: 3, Used: 3, First: math.MaxUint64, Many: 2},
		{At: 4, Used: 2, First: 0, Many: 1},
		{At: 1, Used: 1, First: 1, Many: 1},
	} {
		if !ok(d, r, x) {
			t.Error(i, x)
		}
	}
	for i, x := range []api.Log{
		{At: 3, Used: 4, First: math.MaxUint64, Many: 2},
		{At: 3, Used: 3, First: math.MaxUint64, Many: 3},
		{At: 3, Used: 5, First: math.MaxUint64, Many: 3},
		{At: 3, Used: 5, First: math.MaxUint64, Many: 4},
		{At: 3, Used: 4, First: math.MaxUint64, Many: 4},
		{At: 3, Used: 4, First: 0, Many: 3},
		{At: 2, Used: 4, First: math.MaxUint64, Many: 3},
		{At: 5, Used: 0}, {At: -1, Used: 0}, {At: math.MaxInt}, {At: math.MinInt},
		{At: 3, Used: 1}, {At: 3, Used: -1}, {At: 3, Used: 6}, {At: 3, Used: math.MaxInt}, {At: 3, Many: -1}, {At: 3, Many: math.MaxInt},
		{At: 3, Used: 4, First: math.MaxUint64, Many: math.MaxInt},
	} {
		if ok(d, r, x) {
			t.Error(i, x)
		}
	}
	for i, x := range []api.Ring{{From: 1, Many: 6}, {From: 2, Many: 5}, {From: -1, Many: 5}, {From: 1, Many: 0}, {From: 0, Many: -1}, {From: math.MaxInt, Many: math.MaxInt}, {From: 1, Many: math.MaxInt}, {From: math.MinInt, Many: 1}, {From: 7, Many: 1}} {
		if ok(d, x, api.Log{}) {
			t.Error(i, x)
		}
	}
	if !ok(d, api.Ring{From: 5, Many: 1}, api.Log{}) || !ok(d, api.Ring{From: 0, Many: 6}, api.Log{At: 5}) {
		t.Error("a right ring")
	}
	off := d
	off.Off = true
	if ok(off, r, l) || ok(off, r, api.Log{}) {
		t.Error("right without power")
	}
}

func TestStandsWhole(t *testing.T) { // P5.1, P5.2
	base, r, l := begin(t, 1, 3, 0, 1)
	base, l = must(t, base, r, l, "a", long(60))
	base = flush(t, base)
	image := disk.Image(base)
	for at := 1; at <= 3; at++ {
		for i := range 64 {
			b := []byte(image[at])
			b[i] ^= 0x40
			d, e := disk.Write(base, at, string(b))
			if e != api.OK {
				t.Fatal(e)
			}
			if redo.Right(d, r, l) {
				t.Fatalf("the byte %d of %d doesn't count", i, at)
			}
			many := 1
			if at == 1 {
				many = 0
			}
			if m, texts, e := redo.Scan(d, r, 0, 1); e != api.OK || m.Many != many || len(texts) != many {
				t.Fatalf("the byte %d of %d: %v %q %d", i, at, m, texts, e)
			}
		}
	}
}

func TestScan(t *testing.T) { // P5.2
	d, r, l := begin(t, 1, 6, 4, 9)
	texts := []string{"", long(52), "c", "\x00"}
	d, l = must(t, d, r, l, texts...)
	if m, x, e := redo.Scan(d, r, 4, 9); m != l || !slices.Equal(x, texts) || e != api.OK {
		t.Error(m, x, e)
	}
	if m, x, e := redo.Scan(d, r, 5, 10); m != (api.Log{At: 5, Used: 4, First: 10, Many: 3}) || !slices.Equal(x, texts[1:]) || e != api.OK {
		t.Error(m, x, e)
	}
	for _, at := range []int{0, 3, 4, 5} {
		if m, x, e := redo.Scan(d, r, at, 1); m != (api.Log{At: at, First: 1}) || len(x) != 0 || e != api.OK {
			t.Error(m, x, e)
		}
	}
	for i, x := range []struct {
		r  api.Ring
		at int
	}{{r, 6}, {r, -1}, {r, math.MaxInt}, {api.Ring{From: 1, Many: 7}, 0}, {api.Ring{From: 1, Many: 0}, 0}, {api.Ring{From: -1, Many: 3}, 0}, {api.Ring{From: 3, Many: math.MaxInt}, 0}} {
		if m, l, e := redo.Scan(d, x.r, x.at, 9); m != (api.Log{}) || len(l) != 0 || e != api.ErrArg {
			t.Error(i, m, l, e)
		}
		off := d
		off.Off = true
		if m, l, e := redo.Scan(off, x.r, x.at, 9); m != (api.Log{}) || len(l) != 0 || e != api.ErrDead {
			t.Error(i, m, l, e)
		}
	}
	// A record that needs more than the ring has does not stand, wherever in it the ring ends.
	for bytes := 52; bytes < 64; bytes++ {
		x := record(3, long(bytes))
		d, _, _ := begin(t, 0, 1, 0, 3)
		d, e := disk.Write(d, 0, x[:64])
		if m, l, f := redo.Scan(d, api.Ring{From: 0, Many: 1}, 0, 3); e != api.OK || m != (api.Log{First: 3}) || len(l) != 0 || f != api.OK {
			t.Error(bytes, m, l, e, f)
		}
		if redo.Right(d, api.Ring{From: 0, Many: 1}, api.Log{Used: 1, First: 3, Many: 1}) {
			t.Error(bytes, "right, though its end is missing")
		}
	}
}

// forge are four bytes that lead a check sum's register from one to another.
func forge(from, to uint32) string {
	// What the four bytes do is linear: a place of the register falls by one bit of theirs each.
	var rows [32][2]uint32
	at := func(bits uint32) uint32 {
		return seal.More(from, string(binary.LittleEndian.AppendUint32(nil, bits)))
	}
	base := at(0)
	for i := range 32 {
		rows[i] = [2]uint32{at(1<<i) ^ base, 1 << i}
	}
	left, bits := base^to, uint32(0)
	for i := range 32 {
		j := slices.IndexFunc(rows[i:], func(r [2]uint32) bool { return r[0]>>i&1 == 1 }) + i
		rows[i], rows[j] = rows[j], rows[i]
		for k := range 32 {
			if k != i && rows[k][0]>>i&1 == 1 {
				rows[k][0] ^= rows[i][0]
				rows[k][1] ^= rows[i][1]
			}
		}
	}
	for i := range 32 {
		if left>>i&1 == 1 {
			bits ^= rows[i][1]
		}
	}
	return string(binary.LittleEndian.AppendUint32(nil, bits))
}

func TestScanStopsAtTheRingsEnd(t *testing.T) { // P5.2
	// The second record's last sector is the first record's own: only what the ring has left tells that it doesn't stand.
	first := string(binary.LittleEndian.AppendUint64(nil, 1)) + octet.Text("tail")
	head := string(binary.LittleEndian.AppendUint64(nil, 2)) + octet.Num(uint64(128-10+len(first)))
	head += long(124 - len(head))
	head += forge(seal.More(0xffffffff, head), 0xffffffff)
	text := (head + first)[10:]
	if x := record(2, text); x[:128] != head || x[128:] != record(1, "tail") {
		t.Fatalf("%x", x)
	}
	d, r, l := begin(t, 0, 3, 2, 1)
	d, l = must(t, d, r, l, "tail")
	d, _ = disk.Write(d, 0, head[:64])
	d, _ = disk.Write(d, 1, head[64:])
	if m, x, e := redo.Scan(d, r, 0, 2); m != (api.Log{At: 0, Used: 3, First: 2, Many: 1}) || !slices.Equal(x, []string{text}) || e != api.OK {
		t.Error(m, x, e)
	}
	if m, x, e := redo.Scan(d, r, 2, 1); m != l || !slices.Equal(x, []string{"tail"}) || e != api.OK {
		t.Error(m, x, e)
	}
	if redo.Right(d, r, api.Log{At: 2, Used: 3, First: 1, Many: 2}) || redo.Right(d, r, api.Log{At: 2, Used: 1, First: 1, Many: 2}) {
		t.Error("right, though it needs more than there is")
	}
}

func TestTextsAndDrop(t *testing.T) { // P5.2
	d, r, l := begin(t, 1, 6, 4, math.MaxUint64)
	texts := []string{"a", long(52), "c", long(5)}
	d, l = must(t, d, r, l, texts...)
	for many := range 5 {
		m, e := redo.Drop(d, r, l, many)
		if e != api.OK || !redo.Right(d, r, m) || m.Many != 4-many || m.First != math.MaxUint64+uint64(many) {
			t.Fatal(many, m, e)
		}
		if x, e := redo.Texts(d, r, m); e != api.OK || !slices.Equal(x, texts[many:]) {
			t.Fatal(many, x, e)
		}
	}
	if m, e := redo.Drop(d, r, l, 2); e != api.OK || m != (api.Log{At: 1, Used: 2, First: 1, Many: 2}) {
		t.Error(m, e)
	}
	if m, e := redo.Drop(d, r, l, 4); e != api.OK || m != (api.Log{At: 3, Used: 0, First: 3, Many: 0}) {
		t.Error(m, e)
	}
	for _, many := range []int{-1, 5, math.MaxInt, math.MinInt} {
		if m, e := redo.Drop(d, r, l, many); e != api.ErrArg || m != l {
			t.Error(many, m, e)
		}
	}
	if x, e := redo.Texts(d, r, api.Log{At: 4, Used: 1, First: math.MaxUint64, Many: 1}); e != api.OK || !slices.Equal(x, texts[:1]) {
		t.Error(x, e)
	}
	if x, e := redo.Texts(d, r, api.Log{At: 4, First: math.MaxUint64}); e != api.OK || len(x) != 0 {
		t.Error(x, e)
	}
	d.Off = true
	if x, e := redo.Texts(d, r, l); e != api.ErrDead || len(x) != 0 {
		t.Error(x, e)
	}
}

func TestRounds(t *testing.T) { // P5.3
	rnd := rand.New(rand.NewSource(6))
	for range 200 {
		d, r, l := begin(t, rnd.Intn(3), 1+rnd.Intn(9), 0, uint64(rnd.Intn(5))-2)
		l.At = rnd.Intn(r.Many)
		var texts []string
		flushed := l
		for range 40 {
			switch rnd.Intn(4) {
			case 0:
				many := rnd.Intn(l.Many + 1)
				var e api.Errno
				if l, e = redo.Drop(d, r, l, many); e != api.OK {
					t.Fatal(e)
				}
				texts = texts[many:]
				d = flush(t, d)
				flushed = l
			case 1:
				d, flushed = flush(t, d), l
			default:
				s := strings.Repeat(string(rune('a'+rnd.Intn(26))), rnd.Intn(150))
				x, m, e := redo.Append(d, r, l, s)
				if room := l.Used+redo.Need(s) <= r.Many; room != (e == api.OK) {
					t.Fatal(l, len(s), e)
				}
				if e == api.OK {
					d, l, texts = x, m, append(texts, s)
				}
			}
			if !redo.Right(d, r, l) {
				t.Fatal(d, r, l)
			}
			if x, e := redo.Texts(d, r, l); e != api.OK || !slices.Equal(x, texts) {
				t.Fatal(x, e)
			}
			m, x, e := redo.Scan(d, r, l.At, l.First)
			if e != api.OK || !redo.Right(d, r, m) || len(x) < len(texts) || !slices.Equal(x[:len(texts)], texts) {
				t.Fatal(m, x, e)
			}
			keep := make([]bool, rnd.Intn(8))
			for i := range keep {
				keep[i] = rnd.Intn(2) == 0
			}
			c := disk.Crash(d, keep)
			if m, x, e := redo.Scan(c, r, l.At, l.First); e != api.OK || !redo.Right(c, r, m) || !slices.Equal(x[:flushed.Many], texts[:flushed.Many]) {
				t.Fatal(m, x, e)
			}
		}
	}
}
