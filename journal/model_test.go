package journal_test

import (
	"bytes"
	"encoding/binary"
	"hash/crc32"
	"testing"

	"pavane/api"
	"pavane/disk"
	"pavane/journal"
)

// model is the chapter's journal said in another way: it lays all the bytes up
// to its end over a copy of the area, and writes what sectors it touched. It
// works on a disk of its own.
type model struct {
	disk       *disk.Disk
	from, to   int
	end, count int64
}

// whole answers all the bytes of the sectors from from up to ahead of to.
func whole(d *disk.Disk, from, to int) []byte {
	var b []byte
	for i := from; i < to; i++ {
		s, _ := d.Read(i)
		b = append(b, s...)
	}
	return b
}

func openModel(d *disk.Disk, from, to int, end, count int64) (*model, [][]byte, api.Errno) {
	switch {
	case from < 0, to > d.Size(), from > to:
		return nil, nil, api.ErrArg
	case end < 0, end > 64*int64(to-from):
		return nil, nil, api.ErrSpoilt
	case d.Down():
		return nil, nil, api.ErrDown
	}
	l, at := [][]byte{}, bytes.NewReader(whole(d, from, to)[:end])
	for at.Len() > 0 {
		var head [2]uint64
		if binary.Read(at, binary.BigEndian, &head) != nil || head[0] > uint64(at.Len()) {
			return nil, nil, api.ErrSpoilt
		}
		b := make([]byte, head[0])
		at.Read(b)
		if uint64(crc32.ChecksumIEEE(b)) != head[1] {
			return nil, nil, api.ErrSpoilt
		}
		l = append(l, b)
	}
	if count != int64(len(l)) {
		return nil, nil, api.ErrSpoilt
	}
	return &model{d, from, to, end, count}, l, api.OK
}

func (m *model) append(b []byte) api.Errno {
	f := frame(b)
	if len(b) > 1048576 {
		return api.ErrLong
	}
	if m.end+int64(len(f)) > 64*int64(m.to-m.from) {
		return api.ErrFull
	}
	if m.disk.Down() {
		return api.ErrDown
	}
	all := append(whole(m.disk, m.from, m.to)[:m.end], f...)
	all = append(all, make([]byte, 64)...)
	last := (m.end + int64(len(f)) - 1) / 64
	for i := m.end / 64; i <= last; i++ {
		if e := m.disk.Write(m.from+int(i), all[64*i:64*i+64]); e != api.OK {
			return e
		}
	}
	if e := m.disk.Flush(); e != api.OK {
		return e
	}
	m.end += int64(len(f))
	m.count++
	return api.OK
}

// pair is a journal and the model it is held against, each on its own disk.
type pair struct {
	d, e *disk.Disk
	j    *journal.Journal
	m    *model
}

// reopen opens both anew, and keeps them, if they could be.
func (p *pair) reopen(t *testing.T, from, to int, end, count int64) {
	t.Helper()
	j, l, e := journal.Open(p.d, from, to, end, count)
	m, k, f := openModel(p.e, from, to, end, count)
	if e != f || (j == nil) != (m == nil) || !same(l, k) {
		t.Fatalf("Open(%d, %d, %d, %d): %q, %d, want %q, %d", from, to, end, count, l, e, k, f)
	}
	if j != nil {
		p.j, p.m = j, m
	}
}

// do does the call that four bytes tell, on both.
func (p *pair) do(t *testing.T, call []byte) {
	t.Helper()
	a, b, c := int(int8(call[1])), int(int8(call[2])), int(call[3])
	var got, want api.Errno
	switch call[0] % 8 {
	case 0, 1, 2:
		x := bytes.Repeat(call[2:3], c%100)
		got, want = p.j.Append(x), p.m.append(x)
	case 3:
		p.d.Arm(a % 6)
		p.e.Arm(a % 6)
	case 4:
		p.d.Crash(a%5, b)
		p.e.Crash(a%5, b)
	case 5:
		x := bytes.Repeat(call[2:3], c%65)
		got, want = p.d.Write(a%6, x), p.e.Write(a%6, x)
	case 6:
		p.reopen(t, p.m.from, p.m.to, p.m.end+int64(a%3), p.m.count+int64(b%3))
	default:
		p.reopen(t, a%8, b%8, int64(c%17)*16, int64(c%17))
	}
	if got != want || p.d.Waits() != p.e.Waits() || p.d.Down() != p.e.Down() {
		t.Fatalf("%v: %d, want %d", call, got, want)
	}
	wantHas(t, "against the model", p.j, p.m.end, p.m.count)
	if !bytes.Equal(whole(p.d, 0, 6), whole(p.e, 0, 6)) {
		t.Fatalf("%v: the disk has %x, want %x", call, whole(p.d, 0, 6), whole(p.e, 0, 6))
	}
}

// compare holds a journal to its model, four bytes a call.
func compare(t *testing.T, calls []byte) {
	t.Helper()
	p := pair{d: disk.New(6), e: disk.New(6)}
	p.reopen(t, 1, 5, 0, 0)
	for n := 0; n+4 <= len(calls); n += 4 {
		p.do(t, calls[n:n+4])
	}
}

// next is a small generator of numbers, the same in each run.
func next(x *uint32) uint32 {
	*x = *x*1664525 + 1013904223
	return *x >> 16
}

// P1, P5.1 and P5.2: whatever the calls and their order, none panics and all
// answer what the chapter says.
func TestJournalAgainstModel(t *testing.T) {
	x := uint32(1)
	for range 3000 {
		calls := make([]byte, 4*(1+next(&x)%24))
		for i := range calls {
			calls[i] = byte(next(&x))
		}
		compare(t, calls)
	}
}

func FuzzJournal(f *testing.F) {
	f.Add([]byte{0, 0, 97, 3, 0, 0, 98, 93, 6, 0, 0, 0, 0, 0, 0, 60})
	f.Add([]byte{0, 0, 97, 50, 3, 2, 0, 0, 0, 0, 98, 80, 4, 1, 30, 0, 6, 0, 0, 0, 0, 0, 99, 9, 6, 1, 0, 0})
	f.Add([]byte{5, 1, 0, 64, 7, 1, 4, 4, 0, 0, 1, 1, 7, 6, 6, 0, 0, 0, 0, 0})
	f.Fuzz(compare)
}

// openBytes holds Open of these bytes, laid as an area, to the model's.
func openBytes(t *testing.T, b []byte, end, count int64) {
	t.Helper()
	size := len(b)/64 + 1
	p := pair{d: laid(t, size, 0, b), e: laid(t, size, 0, b)}
	p.reopen(t, 0, size, end, count)
}

// P5.1: whatever bytes stand in an area, Open tells the frames, or that there
// are none.
func FuzzOpen(f *testing.F) {
	f.Add(frames(texts("abc", "", "d")), int64(52), int64(3))
	f.Add(headed(-1, 0, nil), int64(16), int64(1))
	f.Add(headed(3, 0, []byte("abc")), int64(19), int64(1))
	f.Fuzz(openBytes)
}
