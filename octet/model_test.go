package octet_test

import (
	"encoding/binary"
	"testing"

	"pavane/octet"
)

// model is the chapter's reader said in another way: a place in bytes that
// never change.
type model struct {
	all []byte
	at  int
	bad bool
}

func (m *model) left() int {
	if m.bad {
		return 0
	}
	return len(m.all) - m.at
}

func (m *model) number() int64 {
	if m.left() < 8 {
		m.bad = true
		return 0
	}
	m.at += 8
	return int64(binary.BigEndian.Uint64(m.all[m.at-8 : m.at]))
}

func (m *model) count(least int) int {
	n := m.number()
	k := int64(m.left())
	if least > 1 {
		k /= int64(least)
	}
	if n < 0 || n > k {
		m.bad = true
		return 0
	}
	return int(n)
}

func (m *model) text() string {
	n := m.number()
	if n < 0 || n > int64(m.left()) {
		m.bad = true
	}
	if m.bad {
		return ""
	}
	m.at += int(n)
	return string(m.all[m.at-int(n) : m.at])
}

func (m *model) truth() bool {
	if m.left() < 1 || m.all[m.at] > 1 {
		m.bad = true
		return false
	}
	m.at++
	return m.all[m.at-1] == 1
}

// compare asks a reader and the model the same calls, one a byte of calls.
func compare(t *testing.T, b, calls []byte) {
	t.Helper()
	r, m := octet.Read(b), &model{all: b}
	for i, c := range calls {
		same := true
		switch c % 4 {
		case 0:
			same = r.Int() == m.number()
		case 1:
			same = r.Text() == m.text()
		case 2:
			same = r.Bool() == m.truth()
		case 3:
			least := int(c)/4 - 4
			same = r.Count(least) == m.count(least)
		}
		if !same || r.Left() != m.left() || r.Bad() != m.bad || r.Done() != (!m.bad && m.left() == 0) {
			t.Fatalf("bytes %v, calls %v: the call %d differs", b, calls, i)
		}
	}
}

// next is a small generator of numbers, the same in each run.
func next(x *uint32) uint32 {
	*x = *x*1664525 + 1013904223
	return *x >> 16
}

// P1 and P1.2: whatever the bytes and whatever the calls, no call panics and
// all of them answer what the chapter says.
func TestReaderAgainstModel(t *testing.T) {
	x := uint32(1)
	for range 20000 {
		b := make([]byte, next(&x)%48)
		for i := range b {
			switch next(&x) % 8 {
			case 0:
				b[i] = byte(next(&x) % 5)
			case 1:
				b[i] = byte(next(&x))
			case 2:
				b[i] = 1
			}
		}
		calls := make([]byte, 1+next(&x)%8)
		for i := range calls {
			calls[i] = byte(next(&x))
		}
		compare(t, b, calls)
	}
}

func FuzzReader(f *testing.F) {
	f.Add(octet.PutText(octet.PutInt(nil, -2), "ab"), []byte{0, 1, 2, 3})
	f.Add([]byte{}, []byte{3})
	f.Fuzz(compare)
}
