package cell_test

import (
	"bytes"
	"encoding/binary"
	"testing"

	"pavane/api"
	"pavane/cell"
	"pavane/disk"
)

// model is the chapter's cell said in another way: it has bytes, the half that
// was whole, and works on a disk of its own.
type model struct {
	disk  *disk.Disk
	first int
	half  []byte
}

func turnOf(half []byte) int64 {
	return int64(binary.BigEndian.Uint64(half))
}

func openModel(d *disk.Disk, first int) (*model, api.Errno) {
	one, e := d.Read(first)
	if e != api.OK {
		return nil, e
	}
	two, e := d.Read(first + 1)
	if e != api.OK {
		return nil, e
	}
	m := &model{d, first, make([]byte, 32)}
	for _, b := range [][]byte{two, one} {
		whole := bytes.Equal(b[:32], b[32:]) && turnOf(b) > 0
		if whole && turnOf(b) >= turnOf(m.half) {
			m.half = b[:32]
		}
	}
	return m, api.OK
}

func (m *model) get() [3]int64 {
	var v [3]int64
	binary.Read(bytes.NewReader(m.half[8:]), binary.BigEndian, &v)
	return v
}

func (m *model) set(v [3]int64) api.Errno {
	turn := turnOf(m.half)
	if turn >= 4611686018427387904 {
		return api.ErrFull
	}
	b := twice(turn+1, v)
	e := m.disk.Write(m.first+int(turn%2), b)
	if e == api.OK {
		e = m.disk.Flush()
	}
	if e == api.OK {
		m.half = b[:32]
	}
	return e
}

// compare holds cells and models to the same calls, four bytes each: two of
// each, that stand in sectors of which they share one, and are opened anew now
// and then.
func compare(t *testing.T, calls []byte) {
	t.Helper()
	d, e := disk.New(3), disk.New(3)
	cells, models := [2]*cell.Cell{}, [2]*model{}
	for i := range cells {
		cells[i], _ = cell.Open(d, i)
		models[i], _ = openModel(e, i)
	}
	for n := 0; n+4 <= len(calls); n += 4 {
		i, a, b := int(calls[n]/8%2), int(int8(calls[n+1])), int(int8(calls[n+2]))
		v := [3]int64{int64(a) << (calls[n+3] % 57), int64(b), int64(calls[n+3])}
		var got, want api.Errno
		switch calls[n] % 8 {
		case 0, 1, 2:
			got, want = cells[i].Set(v), models[i].set(v)
		case 3:
			d.Arm(a % 6)
			e.Arm(a % 6)
		case 4:
			d.Crash(a%4, b)
			e.Crash(a%4, b)
		case 5:
			turn := int64(a) << (calls[n+3] % 64)
			got, want = d.Write(i+b&1, twice(turn, v)), e.Write(i+b&1, twice(turn, v))
		default:
			c, f := cell.Open(d, a%5)
			m, g := openModel(e, a%5)
			if f != g || (c == nil) != (m == nil) {
				t.Fatalf("calls %v: Open at %d: %d, want %d", calls, n, f, g)
			}
			if c != nil {
				cells[i], models[i] = c, m
			}
		}
		if got != want || d.Waits() != e.Waits() || d.Down() != e.Down() {
			t.Fatalf("calls %v: the one at %d differs: %d, want %d", calls, n, got, want)
		}
		for i, c := range cells {
			if c.Turn() != turnOf(models[i].half) || c.Get() != models[i].get() {
				t.Fatalf("calls %v: at %d cell %d is %d %v, want %v", calls, n, i, c.Turn(), c.Get(), models[i].half)
			}
		}
		for i := range 3 {
			b, _ := d.Read(i)
			if c, _ := e.Read(i); !bytes.Equal(b, c) {
				t.Fatalf("calls %v: at %d sector %d is %v, want %v", calls, n, i, b, c)
			}
		}
	}
}

// next is a small generator of numbers, the same in each run.
func next(x *uint32) uint32 {
	*x = *x*1664525 + 1013904223
	return *x >> 16
}

// P1, P4.1 and P4.2: whatever the calls and their order, none panics and all
// answer what the chapter says.
func TestCellAgainstModel(t *testing.T) {
	x := uint32(1)
	for range 3000 {
		calls := make([]byte, 4*(1+next(&x)%24))
		for i := range calls {
			calls[i] = byte(next(&x))
		}
		compare(t, calls)
	}
}

func FuzzCell(f *testing.F) {
	f.Add([]byte{0, 7, 8, 9, 3, 1, 0, 0, 0, 4, 5, 6, 4, 0, 40, 0, 6, 0, 0, 0})
	f.Add([]byte{5, 1, 0, 62, 6, 0, 0, 0, 0, 1, 1, 1, 8, 2, 2, 2, 14, 1, 0, 0})
	f.Fuzz(compare)
}
