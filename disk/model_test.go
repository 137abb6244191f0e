package disk_test

import (
	"testing"

	"pavane/api"
	"pavane/disk"
)

// model is the chapter's disk said in another way: all writes there ever were,
// with how many bytes of each came to be lasting; so nothing is ever taken
// away, and what is told is worked out from the beginning each time.
type model struct {
	size   int
	writes []entry
	waits  int // the last so many writes are the buffer
	up     bool
	armed  bool
	left   int
}

type entry struct {
	place, came int
	data        string
}

// told tells a sector byte by byte.
func (m *model) told(i int) string {
	b := make([]byte, api.SectorSize)
	for k, w := range m.writes {
		came := w.came
		if k >= len(m.writes)-m.waits {
			came = api.SectorSize
		}
		for at := range b {
			if w.place == i && at < came {
				b[at] = 0
				if at < len(w.data) {
					b[at] = w.data[at]
				}
			}
		}
	}
	return string(b)
}

func (m *model) changed() api.Errno {
	m.left--
	m.up = !m.armed || m.left > 0
	return api.OK
}

func (m *model) read(i int) (string, api.Errno) {
	switch {
	case !m.up:
		return "", api.ErrDown
	case i < 0 || i >= m.size:
		return "", api.ErrRange
	}
	return m.told(i), api.OK
}

func (m *model) write(i int, data []byte) api.Errno {
	switch {
	case !m.up:
		return api.ErrDown
	case i < 0 || i >= m.size:
		return api.ErrRange
	case len(data) > 64:
		return api.ErrLong
	}
	m.writes = append(m.writes, entry{i, 0, string(data)})
	m.waits++
	return m.changed()
}

func (m *model) flush() api.Errno {
	if !m.up {
		return api.ErrDown
	}
	m.come(m.waits, 0)
	return m.changed()
}

// come says of the buffer's writes how many bytes of each are lasting.
func (m *model) come(keep, torn int) {
	first := len(m.writes) - m.waits
	for k := range m.waits {
		switch {
		case k < keep:
			m.writes[first+k].came = 64
		case k == max(keep, 0):
			m.writes[first+k].came = torn
		}
	}
	m.waits = 0
}

func (m *model) arm(n int) {
	if m.up {
		m.armed, m.left = n >= 0, n
		m.up = n != 0
	}
}

func (m *model) crash(keep, torn int) {
	m.come(keep, torn)
	m.up, m.armed = true, false
}

// compare holds a disk and the model to the same calls, three bytes each; now
// and then the disk's clone goes on in its place.
func compare(t *testing.T, calls []byte) {
	t.Helper()
	d, m := disk.New(3), &model{size: 3, up: true}
	for n := 0; n+3 <= len(calls); n += 3 {
		a, b := int(int8(calls[n+1])), int(int8(calls[n+2]))
		var got, want api.Errno
		switch calls[n] % 8 {
		case 0, 1, 2:
			data := make([]byte, calls[n+2]%70)
			for i := range data {
				data[i] = calls[n] + byte(i) + 1
			}
			got, want = d.Write(a%5, data), m.write(a%5, data)
		case 3:
			got, want = d.Flush(), m.flush()
		case 4:
			d.Arm(a % 8)
			m.arm(a % 8)
		case 5:
			d.Crash(a%8, b)
			m.crash(a%8, b)
		case 6:
			old := d
			d = d.Clone()
			old.Crash(a, b)
			old.Write(0, []byte("older"))
			old.Flush()
		}
		if got != want || d.Waits() != m.waits || d.Down() == m.up || d.Size() != m.size {
			t.Fatalf("calls %v: the one at %d differs", calls, n)
		}
		for i := -1; i <= m.size; i++ {
			told, e := d.Read(i)
			if s, f := m.read(i); string(told) != s || e != f {
				t.Fatalf("calls %v: at %d sector %d is %q, %d, want %q, %d", calls, n, i, told, e, s, f)
			}
		}
	}
}

// next is a small generator of numbers, the same in each run.
func next(x *uint32) uint32 {
	*x = *x*1664525 + 1013904223
	return *x >> 16
}

// P1 and P3.1 to P3.4: whatever the calls and their order, none panics and all
// answer what the chapter says.
func TestDiskAgainstModel(t *testing.T) {
	x := uint32(1)
	for range 3000 {
		calls := make([]byte, 3*(1+next(&x)%24))
		for i := range calls {
			calls[i] = byte(next(&x))
		}
		compare(t, calls)
	}
}

func FuzzDisk(f *testing.F) {
	f.Add([]byte{0, 0, 2, 1, 0, 2, 5, 1, 1})
	f.Add([]byte{4, 2, 0, 0, 1, 64, 3, 0, 0, 6, 0, 0, 5, 0, 0})
	f.Fuzz(compare)
}
