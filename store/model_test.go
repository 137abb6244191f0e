package store_test

import (
	"bytes"
	"encoding/binary"
	"hash/crc32"
	"maps"
	"slices"
	"strings"
	"testing"

	"pavane/api"
	"pavane/disk"
	"pavane/store"
)

// number, batch, frame and sector are the chapters' bytes, said once more.
func number(ns ...int64) []byte {
	var b []byte
	for _, n := range ns {
		b = binary.BigEndian.AppendUint64(b, uint64(n))
	}
	return b
}

func text(s string) []byte {
	return append(number(int64(len(s))), s...)
}

func batch(l ...store.Change) []byte {
	b := number(int64(len(l)))
	for _, c := range l {
		b = append(b, text(c.Key)...)
		if c.Gone {
			b = append(b, 1)
			continue
		}
		b = append(append(b, 0), text(c.Value)...)
	}
	return b
}

func frame(b []byte) []byte {
	return append(number(int64(len(b)), int64(crc32.ChecksumIEEE(b))), b...)
}

func sector(turn, area, end, count int64) []byte {
	return number(turn, area, end, count, turn, area, end, count)
}

// model is the chapter's store said in another way: pairs in a map, and the
// sectors written one by one. It works on a disk of its own.
type model struct {
	disk       *disk.Disk
	pairs      map[string]string
	turn       int64
	area       int
	end, count int64
	cutOff     bool
}

func (m *model) half() int            { return (m.disk.Size() - 2) / 2 }
func (m *model) first(area int) int   { return 2 + area*m.half() }
func (m *model) room() int64          { return 64 * int64(m.half()) }
func tell(d *disk.Disk, i int) string { s, _ := d.Read(i); return string(s) }

func (m *model) bytes(area int) []byte {
	var b []byte
	for i := range m.half() {
		b = append(b, tell(m.disk, m.first(area)+i)...)
	}
	return b
}

func openModel(d *disk.Disk) (*model, api.Errno) {
	if d.Size() <= 3 {
		return nil, api.ErrArg
	}
	if d.Down() {
		return nil, api.ErrDown
	}
	m := &model{disk: d, pairs: map[string]string{}}
	var area int64
	for i := range 2 {
		s := tell(d, i)
		var v [4]int64
		binary.Read(strings.NewReader(s), binary.BigEndian, &v)
		if s[:32] == s[32:] && v[0] > m.turn {
			m.turn, area, m.end, m.count = v[0], v[1], v[2], v[3]
		}
	}
	if area != 0 && area != 1 {
		return nil, api.ErrSpoilt
	}
	m.area = int(area)
	if m.end < 0 || m.end > m.room() {
		return nil, api.ErrSpoilt
	}
	at := bytes.NewReader(m.bytes(m.area)[:m.end])
	frames := int64(0)
	for ; at.Len() > 0; frames++ {
		b, ok := nextFrame(at)
		if !ok || !m.read(b) {
			return nil, api.ErrSpoilt
		}
	}
	if frames != m.count {
		return nil, api.ErrSpoilt
	}
	for i := range 2 {
		if s := tell(d, i); s[:32] != s[32:] {
			d.Write(i, make([]byte, 64))
			m.cutOff = d.Flush() != api.OK
		}
		if m.cutOff {
			break
		}
	}
	return m, api.OK
}

func nextFrame(at *bytes.Reader) ([]byte, bool) {
	var head [2]uint64
	if binary.Read(at, binary.BigEndian, &head) != nil || head[0] > uint64(at.Len()) {
		return nil, false
	}
	b := make([]byte, head[0])
	at.Read(b)
	return b, uint64(crc32.ChecksumIEEE(b)) == head[1]
}

// read does the batch of which b is the bytes, change by change; whether it is
// one is seen by telling it again.
func (m *model) read(b []byte) bool {
	at := bytes.NewReader(b)
	take := func() string {
		var n int64
		if binary.Read(at, binary.BigEndian, &n) != nil || n < 0 || n > int64(at.Len()) {
			at.Reset(nil)
			return ""
		}
		s := make([]byte, n)
		at.Read(s)
		return string(s)
	}
	var n int64
	binary.Read(at, binary.BigEndian, &n)
	var l []store.Change
	for int64(len(l)) < n && at.Len() > 0 {
		c := store.Change{Key: take()}
		gone, _ := at.ReadByte()
		c.Gone = gone == 1
		if !c.Gone {
			c.Value = take()
		}
		l = append(l, c)
	}
	m.pairs = changed(m.pairs, l)
	return bytes.Equal(batch(l...), b)
}

func changed(pairs map[string]string, l []store.Change) map[string]string {
	pairs = maps.Clone(pairs)
	for _, c := range l {
		if c.Gone {
			delete(pairs, c.Key)
		} else {
			pairs[c.Key] = c.Value
		}
	}
	return pairs
}

// under answers the pairs of a map, one by one against the prefix.
func under(pairs map[string]string, prefix string) []store.Change {
	var l []store.Change
	for _, k := range slices.Sorted(maps.Keys(pairs)) {
		if len(k) >= len(prefix) && k[:len(prefix)] == prefix {
			l = append(l, store.Change{Key: k, Value: pairs[k]})
		}
	}
	return l
}

func (m *model) commit(l []store.Change) api.Errno {
	pairs := changed(m.pairs, l)
	area, end, count, b := m.area, m.end, m.count, batch(l...)
	if !m.fits(end, b) {
		area, end, count, b = 1-area, 0, 0, batch(under(pairs, "")...)
	}
	if !m.fits(end, b) {
		// Once it was cut off, either error may be told, and the store says
		// that it was, as soon as the disk is up.
		if m.cutOff && !m.disk.Down() {
			return api.ErrDown
		}
		return api.ErrFull
	}
	if m.cutOff || m.disk.Down() {
		m.cutOff = true
		return api.ErrDown
	}
	all := append(m.bytes(area)[:end], frame(b)...)
	last := len(all)
	all = append(all, make([]byte, 64)...)
	e := api.OK
	for i := int(end) / 64; i <= (last-1)/64 && e == api.OK; i++ {
		e = m.disk.Write(m.first(area)+i, all[64*i:64*i+64])
	}
	if e == api.OK {
		e = m.disk.Flush()
	}
	if e == api.OK && m.turn >= 1<<62 {
		return api.ErrFull
	}
	if e == api.OK {
		e = m.disk.Write(int(m.turn%2), sector(m.turn+1, int64(area), int64(last), count+1))
	}
	if e == api.OK {
		e = m.disk.Flush()
	}
	if e != api.OK {
		m.cutOff = true
		return e
	}
	m.turn, m.area, m.end, m.count, m.pairs = m.turn+1, area, int64(last), count+1, pairs
	return api.OK
}

func (m *model) fits(end int64, b []byte) bool {
	return len(b) <= 1048576 && end+16+int64(len(b)) <= m.room()
}

// pair is a store and the model it is held against, each on its own disk.
type pair struct {
	d, e *disk.Disk
	s    *store.Store
	m    *model
}

// reopen opens both anew, and keeps them, if they could be.
func (p *pair) reopen(t *testing.T) {
	t.Helper()
	s, e := store.Open(p.d)
	m, f := openModel(p.e)
	if e != f || (s == nil) != (m == nil) {
		t.Fatalf("Open: %d, want %d", e, f)
	}
	if s != nil {
		p.s, p.m = s, m
	}
}

// changesOf makes changes of bytes: few keys, so that they meet, and values of
// all lengths.
func changesOf(b []byte, sizes int) []store.Change {
	var l []store.Change
	keys := []string{"", "a", "aa", "ab", "b", "\x00", "a\xff", "\xff"}
	for ; len(b) >= 2; b = b[2:] {
		c := store.Change{Key: keys[b[0]%8], Gone: b[0]&8 != 0}
		c.Value = strings.Repeat(string(rune('a'+b[0]%8)), int(b[1])%sizes)
		l = append(l, c)
	}
	return l
}

// do does the call that eight bytes tell, on both.
func (p *pair) do(t *testing.T, call []byte) {
	t.Helper()
	a, b, c := int(int8(call[1])), int(int8(call[2])), int(call[3])
	var got, want api.Errno
	switch call[0] % 16 {
	default:
		l := changesOf(call[2:2+c%7], 12)
		got, want = p.s.Commit(l), p.m.commit(l)
	case 8, 9:
		l := changesOf(call[2:4], 120)
		got, want = p.s.Commit(l), p.m.commit(l)
	case 10, 11:
		p.d.Arm(a % 9)
		p.e.Arm(a % 9)
	case 12, 13, 14:
		p.d.Crash(a%6, b)
		p.e.Crash(a%6, b)
		if call[0]%16 != 14 {
			p.reopen(t)
		}
	case 15:
		if c%4 == 0 {
			x := bytes.Repeat(call[2:3], c%65)
			got, want = p.d.Write(a, x), p.e.Write(a, x)
		}
		p.reopen(t)
	}
	if got != want || p.d.Waits() != p.e.Waits() || p.d.Down() != p.e.Down() {
		t.Fatalf("%v: %d, want %d", call, got, want)
	}
	wantPairs(t, "against the model", p.s, p.m.pairs)
	for i := range p.d.Size() {
		if tell(p.d, i) != tell(p.e, i) {
			t.Fatalf("%v: sector %d has %x, want %x", call, i, tell(p.d, i), tell(p.e, i))
		}
	}
}

// compare holds a store to its model, eight bytes a call.
func compare(t *testing.T, size int, calls []byte) {
	t.Helper()
	p := pair{d: disk.New(size), e: disk.New(size)}
	p.reopen(t)
	if p.s == nil {
		return
	}
	for n := 0; n+8 <= len(calls); n += 8 {
		p.do(t, calls[n:n+8])
	}
}

// next is a small generator of numbers, the same in each run.
func next(x *uint32) uint32 {
	*x = *x*1664525 + 1013904223
	return *x >> 16
}

// P1, P6.1, P6.2 and P6.3: whatever the calls and their order, none panics and
// all answer what the chapter says, and so does the disk, sector by sector.
func TestStoreAgainstModel(t *testing.T) {
	x := uint32(1)
	for range 4000 {
		size := 3 + int(next(&x)%14)
		calls := make([]byte, 8*(1+next(&x)%40))
		for i := range calls {
			calls[i] = byte(next(&x))
		}
		compare(t, size, calls)
	}
}

func FuzzStore(f *testing.F) {
	f.Add(6, []byte{0, 0, 1, 4, 20, 3, 4, 5, 8, 0, 1, 60, 0, 0, 0, 0, 12, 0, 0, 0, 0, 0, 0, 0})
	f.Add(9, []byte{10, 3, 0, 0, 0, 0, 0, 0, 0, 0, 1, 4, 20, 3, 4, 5, 12, 1, 40, 0, 0, 0, 0, 0, 0, 0, 9, 6, 1, 1, 1, 1})
	f.Add(4, []byte{8, 0, 1, 90, 0, 0, 0, 0, 14, 0, 0, 0, 0, 0, 0, 0, 15, 0, 255, 64, 0, 0, 0, 0})
	f.Fuzz(func(t *testing.T, size int, calls []byte) { compare(t, min(size, 40), calls) })
}

// openFrame holds Open of a disk with a frame of these bytes to the model's.
func openFrame(t *testing.T, b []byte) {
	t.Helper()
	f := frame(b[:min(len(b), 1000)])
	size := 4 + len(f)/64*2
	p := pair{d: disk.New(size), e: disk.New(size)}
	for _, d := range []*disk.Disk{p.d, p.e} {
		lay(t, d, 0, sector(1, 0, int64(len(f)), 1))
		lay(t, d, 2, f)
	}
	p.reopen(t)
	if p.s != nil {
		wantPairs(t, "of a frame", p.s, p.m.pairs)
	}
}

// P6.1: whatever bytes a frame has, Open tells the pairs, or that it is none
// of a batch.
func FuzzOpen(f *testing.F) {
	f.Add(batch(store.Change{Key: "a", Value: "1"}, store.Change{Key: "b", Gone: true}))
	f.Add(number(-1))
	f.Add(append(number(1, 1), 'a', 2))
	f.Fuzz(openFrame)
}
