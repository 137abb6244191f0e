package cell_test

import (
	"bytes"
	"encoding/binary"
	"math"
	"testing"

	"pavane/api"
	"pavane/cell"
	"pavane/disk"
)

// numbers answers so many numbers as the chapter has them: 8 bytes each, the
// highest first.
func numbers(ns ...int64) []byte {
	var b []byte
	for _, n := range ns {
		b = binary.BigEndian.AppendUint64(b, uint64(n))
	}
	return b
}

// twice answers the sector whose halves are both the turn and v.
func twice(turn int64, v [3]int64) []byte {
	h := numbers(turn, v[0], v[1], v[2])
	return append(h, h...)
}

func wantErr(t *testing.T, what string, got, want api.Errno) {
	t.Helper()
	if got != want {
		t.Errorf("%s: %d, want %d", what, got, want)
	}
}

func wantCell(t *testing.T, what string, c *cell.Cell, turn int64, v [3]int64) {
	t.Helper()
	if c.Turn() != turn || c.Get() != v {
		t.Errorf("%s: %d %v, want %d %v", what, c.Turn(), c.Get(), turn, v)
	}
}

func wantSector(t *testing.T, what string, d *disk.Disk, i int, want []byte) {
	t.Helper()
	b, e := d.Read(i)
	if e != api.OK || !bytes.Equal(b, want) {
		t.Errorf("%s: sector %d: %v, %d, want %v", what, i, b, e, want)
	}
}

// open opens a cell and holds that to OK.
func open(t *testing.T, d *disk.Disk, first int) *cell.Cell {
	t.Helper()
	c, e := cell.Open(d, first)
	if e != api.OK || c == nil {
		t.Fatalf("Open(%d): %v, %d", first, c, e)
	}
	return c
}

// wantOpenErr also holds Open to its zero value beside an error.
func wantOpenErr(t *testing.T, d *disk.Disk, first int, want api.Errno) {
	t.Helper()
	c, e := cell.Open(d, first)
	if e != want || c != nil {
		t.Errorf("Open(%d): %v, %d, want %d", first, c, e, want)
	}
}

// laid answers a disk of two sectors with these bytes lasting.
func laid(t *testing.T, one, two []byte) *disk.Disk {
	t.Helper()
	d := disk.New(2)
	wantErr(t, "Write", d.Write(0, one), api.OK)
	wantErr(t, "Write", d.Write(1, two), api.OK)
	wantErr(t, "Flush", d.Flush(), api.OK)
	return d
}

// P4.1: on noughts, and on a disk that had something else, a cell has turn 0
// and noughts; so it has wherever it stands.
func TestOpenOnNoughts(t *testing.T) {
	d := disk.New(5)
	for first := range 4 {
		wantCell(t, "noughts", open(t, d, first), 0, [3]int64{})
	}
	full := bytes.Repeat([]byte{255}, api.SectorSize)
	wantCell(t, "turns of -1", open(t, laid(t, full, full), 0), 0, [3]int64{})
}

// P4.1: the disk's errors, at the edges of where a cell can stand; a disk that
// is down says so first.
func TestOpenRefused(t *testing.T) {
	one, many := disk.New(1), disk.New(4)
	wantOpenErr(t, one, 0, api.ErrRange)
	places := []int{3, 4, 5, -1, -2, api.MaxSectors, math.MaxInt - 1, math.MaxInt, math.MinInt}
	for _, first := range places {
		wantOpenErr(t, many, first, api.ErrRange)
	}
	wantCell(t, "the last place", open(t, many, 2), 0, [3]int64{})
	many.Arm(0)
	for _, first := range append(places, 0, 1, 2) {
		wantOpenErr(t, many, first, api.ErrDown)
	}
	many.Crash(0, 0)
	wantCell(t, "up again", open(t, many, 2), 0, [3]int64{})

	greatest := disk.New(api.MaxSectors)
	wantOpenErr(t, greatest, api.MaxSectors-1, api.ErrRange)
	c := open(t, greatest, api.MaxSectors-2)
	wantErr(t, "Set", c.Set([3]int64{1, 2, 3}), api.OK)
	wantErr(t, "Set", c.Set([3]int64{4, 5, 6}), api.OK)
	wantSector(t, "the last sector", greatest, api.MaxSectors-1, twice(2, [3]int64{4, 5, 6}))
}

// P4.1: of two whole sectors the greater turn is had, whichever sector it
// stands in, odd or even; of the same turn the first; a turn of 0 or below is
// none.
func TestOpenTakesGreaterTurn(t *testing.T) {
	one, two, none := [3]int64{1, -1, math.MaxInt64}, [3]int64{2, math.MinInt64, 0}, [3]int64{}
	wants := []struct {
		first, second, turn int64
		v                   [3]int64
	}{
		{0, 0, 0, none}, {1, 0, 1, one}, {0, 1, 1, two}, {2, 0, 2, one}, {0, 2, 2, two},
		{1, 2, 2, two}, {2, 1, 2, one}, {3, 2, 3, one}, {3, 4, 4, two}, {1, 9, 9, two}, {9, 1, 9, one},
		{1, 1, 1, one}, {2, 2, 2, one}, {7, 7, 7, one}, {255, 256, 256, two}, {257, 256, 257, one},
		{-1, 0, 0, none}, {0, -1, 0, none}, {-1, -2, 0, none}, {-1, 1, 1, two}, {1, -1, 1, one},
		{math.MinInt64, math.MinInt64, 0, none}, {math.MinInt64, 3, 3, two}, {3, math.MinInt64, 3, one},
		{1 << 62, 1<<62 + 1, 1<<62 + 1, two}, {math.MaxInt64, math.MaxInt64 - 1, math.MaxInt64, one},
		{math.MaxInt64, math.MaxInt64, math.MaxInt64, one}, {-1, math.MaxInt64, math.MaxInt64, two},
		{1 << 32, 1, 1 << 32, one}, {1, 1 << 32, 1 << 32, two},
	}
	for _, w := range wants {
		d := laid(t, twice(w.first, one), twice(w.second, two))
		wantCell(t, "two sectors", open(t, d, 0), w.turn, w.v)
	}
}

// P4.1: a sector of which any bit of either half is turned isn't whole, and
// the other one, or none, is had.
func TestOpenLeavesTornSectors(t *testing.T) {
	older, newer := [3]int64{1, 2, 3}, [3]int64{4, 5, 6}
	spoil := func(b []byte, bit int) []byte {
		b[bit/8] ^= 1 << (bit % 8)
		return b
	}
	for bit := range 8 * api.SectorSize {
		d := laid(t, twice(3, older), spoil(twice(4, newer), bit))
		wantCell(t, "the newer one is spoilt", open(t, d, 0), 3, older)
		d = laid(t, spoil(twice(3, older), bit), twice(4, newer))
		wantCell(t, "the older one is spoilt", open(t, d, 0), 4, newer)
		d = laid(t, spoil(twice(5, newer), bit), twice(4, older))
		wantCell(t, "the first is newer and spoilt", open(t, d, 0), 4, older)
		d = laid(t, spoil(twice(3, older), bit), spoil(twice(4, newer), bit))
		wantCell(t, "both are spoilt", open(t, d, 0), 0, [3]int64{})
	}
}

// P4.1: a half that is whole in itself is nothing, if the other one of its
// sector is another; the halves of two sectors make no whole one.
func TestOpenNeedsBothHalves(t *testing.T) {
	a, b := numbers(1, 7, 8, 9), numbers(3, 4, 5, 6)
	nought := make([]byte, len(a))
	join := func(one, two []byte) []byte {
		return append(bytes.Clone(one), two...)
	}
	for _, d := range []*disk.Disk{
		laid(t, join(a, nought), nil), laid(t, join(nought, a), nil),
		laid(t, nil, join(a, nought)), laid(t, nil, join(nought, a)),
		laid(t, join(a, b), join(a, b)), laid(t, join(a, b), join(b, a)), laid(t, join(nought, a), join(a, nought)),
	} {
		wantCell(t, "halves apart", open(t, d, 0), 0, [3]int64{})
	}
}

// P4.1: Open reads what is told of the sectors, be it in the buffer alone, and
// changes nothing: no write waits more, and no change of an armed disk is used
// up.
func TestOpenReadsAlone(t *testing.T) {
	d := laid(t, twice(1, [3]int64{1, 1, 1}), nil)
	wantErr(t, "Write", d.Write(1, twice(2, [3]int64{2, 2, 2})), api.OK)
	d.Arm(1)
	for range 3 {
		c := open(t, d, 0)
		wantCell(t, "the buffer's", c, 2, [3]int64{2, 2, 2})
	}
	if d.Waits() != 1 || d.Down() {
		t.Errorf("Waits %d, Down %v", d.Waits(), d.Down())
	}
	d.Crash(0, 0)
	wantCell(t, "the lasting one", open(t, d, 0), 1, [3]int64{1, 1, 1})
}

// P4.1: Get and Turn tell on what the cell has, when others write its sectors,
// when the disk is down, and when it crashed.
func TestOlderCellTellsOn(t *testing.T) {
	d := disk.New(3)
	older := open(t, d, 1)
	wantErr(t, "Set", older.Set([3]int64{1, 2, 3}), api.OK)
	newer := open(t, d, 1)
	wantErr(t, "Set", newer.Set([3]int64{4, 5, 6}), api.OK)
	wantErr(t, "Set", newer.Set([3]int64{7, 8, 9}), api.OK)
	wantCell(t, "older", older, 1, [3]int64{1, 2, 3})
	wantCell(t, "newer", newer, 3, [3]int64{7, 8, 9})

	wantErr(t, "Write", d.Write(1, []byte("spoilt")), api.OK)
	wantErr(t, "Write", d.Write(2, []byte("spoilt")), api.OK)
	wantErr(t, "Flush", d.Flush(), api.OK)
	wantCell(t, "spoilt", open(t, d, 1), 0, [3]int64{})
	d.Arm(0)
	wantCell(t, "newer, the disk is down", newer, 3, [3]int64{7, 8, 9})
	d.Crash(0, 0)
	wantCell(t, "newer, spoilt", newer, 3, [3]int64{7, 8, 9})
	wantErr(t, "Set", newer.Set([3]int64{0, 0, 1}), api.OK)
	wantCell(t, "newer, goes on from its own turn", newer, 4, [3]int64{0, 0, 1})
	wantErr(t, "Set", older.Set([3]int64{0, 0, 2}), api.OK)
	wantCell(t, "older, goes on from its own turn", older, 2, [3]int64{0, 0, 2})
	wantSector(t, "the last to write", d, 2, twice(2, [3]int64{0, 0, 2}))
}

// P4.2: each Set writes the sector of its turn, odd ones first, with two
// halves, and no other; it is lasting at once.
func TestSet(t *testing.T) {
	d := disk.New(5)
	left, right := []byte("left"), []byte("right")
	left, right = append(left, make([]byte, 60)...), append(right, make([]byte, 59)...)
	wantErr(t, "Write", d.Write(0, left), api.OK)
	wantErr(t, "Write", d.Write(3, right), api.OK)
	c := open(t, d, 1)
	sectors := [2][]byte{make([]byte, api.SectorSize), make([]byte, api.SectorSize)}
	sets := [][3]int64{
		{7, 8, 9}, {}, {-1, -2, -3}, {math.MaxInt64, math.MinInt64, 0}, {1, 0, 0}, {0, 1, 0}, {0, 0, 1},
		{0, 0, 1}, {1 << 8, 1 << 31, 1 << 56}, {-1, math.MinInt64, math.MaxInt64},
	}
	for i, v := range sets {
		wantErr(t, "Set", c.Set(v), api.OK)
		turn := int64(i + 1)
		wantCell(t, "behind Set", c, turn, v)
		sectors[i%2] = twice(turn, v)
		if d.Waits() != 0 {
			t.Errorf("%d writes wait", d.Waits())
		}
		wantSector(t, "ahead", d, 0, left)
		wantSector(t, "odd turns", d, 1, sectors[0])
		wantSector(t, "even turns", d, 2, sectors[1])
		wantSector(t, "behind", d, 3, right)
		crashed := d.Clone()
		crashed.Crash(0, 0)
		wantCell(t, "opened anew", open(t, crashed, 1), turn, v)
	}
}

// P4.2: a cell that was opened goes on where it had been, whichever sector its
// turn stood in: the next turn's sector hangs on the turn alone.
func TestSetGoesOnFromOpen(t *testing.T) {
	old := [3]int64{1, 2, 3}
	for _, turn := range []int64{1, 2, 3, 4, 254, 255, 256, 1<<32 - 1, 1 << 32, 1<<62 - 2, 1<<62 - 1} {
		for place := range 2 {
			sectors := [2][]byte{nil, nil}
			sectors[place] = twice(turn, old)
			d := laid(t, sectors[0], sectors[1])
			c := open(t, d, 0)
			wantErr(t, "Set", c.Set([3]int64{7, 8, 9}), api.OK)
			wantCell(t, "behind Set", c, turn+1, [3]int64{7, 8, 9})
			wantSector(t, "the next turn's", d, int(turn%2), twice(turn+1, [3]int64{7, 8, 9}))
			if int64(place) != turn%2 {
				wantSector(t, "the other", d, place, twice(turn, old))
			}
		}
	}
}

// P4.2: there is no turn behind 2^62, and that is said ahead of what the disk
// says; what is refused changes nothing.
func TestSetFull(t *testing.T) {
	v := [3]int64{1, 2, 3}
	for _, turn := range []int64{1 << 62, 1<<62 + 1, math.MaxInt64 - 1, math.MaxInt64} {
		d := laid(t, nil, twice(turn, v))
		c := open(t, d, 0)
		d.Arm(1)
		wantErr(t, "the last turn", c.Set([3]int64{4, 5, 6}), api.ErrFull)
		wantCell(t, "full", c, turn, v)
		if d.Down() || d.Waits() != 0 {
			t.Errorf("turn %d: the disk was changed", turn)
		}
		wantSector(t, "full", d, 0, make([]byte, api.SectorSize))
		wantSector(t, "full", d, 1, twice(turn, v))
		d.Arm(0)
		wantErr(t, "the last turn, and down", c.Set([3]int64{4, 5, 6}), api.ErrFull)
	}
	d := laid(t, twice(1<<62-1, v), nil)
	c := open(t, d, 0)
	wantErr(t, "the last but one", c.Set([3]int64{4, 5, 6}), api.OK)
	wantCell(t, "the last", c, 1<<62, [3]int64{4, 5, 6})
	wantErr(t, "the last", c.Set(v), api.ErrFull)
	wantCell(t, "reopened", open(t, d, 0), 1<<62, [3]int64{4, 5, 6})
}

// P4.2: a Set is two changes, a write and a flush; a disk that is down ahead
// of either says so, and the cell has what it had; behind the second the Set
// is OK, though the disk is down.
func TestSetIsTwoChanges(t *testing.T) {
	old, v := [3]int64{1, 2, 3}, [3]int64{4, 5, 6}
	wants := []struct {
		armed int
		e     api.Errno
		down  bool
		waits int
	}{
		{0, api.ErrDown, true, 0}, {1, api.ErrDown, true, 1}, {2, api.OK, true, 0}, {3, api.OK, false, 0},
	}
	for _, w := range wants {
		d := disk.New(2)
		c := open(t, d, 0)
		wantErr(t, "Set", c.Set(old), api.OK)
		d.Arm(w.armed)
		wantErr(t, "armed", c.Set(v), w.e)
		if d.Down() != w.down || d.Waits() != w.waits {
			t.Errorf("armed with %d: Down %v, Waits %d", w.armed, d.Down(), d.Waits())
		}
		turn, has := int64(1), old
		if w.e == api.OK {
			turn, has = 2, v
		}
		wantCell(t, "armed", c, turn, has)
		d.Crash(0, 0)
		wantCell(t, "armed, opened anew", open(t, d, 0), turn, has)
		wantCell(t, "armed, the same cell", c, turn, has)
		wantErr(t, "Set again", c.Set(v), api.OK)
		wantCell(t, "armed, Set again", c, turn+1, v)
		wantCell(t, "armed, Set and opened anew", open(t, d, 0), turn+1, v)
	}
}

// crashes goes through every change that a Set of v may be cut off at, every
// keep and every torn, from what d has, and hands each disk that comes of it
// to check.
func crashes(t *testing.T, d *disk.Disk, v [3]int64, check func(x *disk.Disk, done bool)) {
	t.Helper()
	for armed := range 4 {
		cut := d.Clone()
		c := open(t, cut, 0)
		cut.Arm(armed)
		done := c.Set(v) == api.OK
		if done != (armed >= 2) {
			t.Errorf("armed with %d: done is %v", armed, done)
		}
		for keep := -1; keep <= 2; keep++ {
			for torn := -1; torn <= api.SectorSize+1; torn++ {
				x := cut.Clone()
				x.Crash(keep, torn)
				check(x, done)
			}
		}
	}
}

// P4.3: whichever change of a Set the power goes at, and whatever the disk
// keeps, the cell has what it had, or all that is new: turn by turn, with
// numbers of which few bytes differ, or many.
func TestSetIsAllOrNothing(t *testing.T) {
	sets := [][3]int64{
		{7, 8, 9}, {7, 8, 9}, {-1, -1, -1}, {7, 8, 10}, {1 << 56, 1, 1 << 56}, {}, {},
		{math.MinInt64, math.MaxInt64, -1}, {1, 1, 1}, {math.MaxInt64, math.MinInt64, 0}, {0, 0, 1},
	}
	d := disk.New(2)
	had, turn := [3]int64{}, int64(0)
	for _, v := range sets {
		olds, news := 0, 0
		crashes(t, d, v, func(x *disk.Disk, done bool) {
			c := open(t, x, 0)
			switch {
			case c.Turn() == turn+1 && c.Get() == v:
				news++
			case c.Turn() == turn && c.Get() == had && !done:
				olds++
			default:
				t.Errorf("turn %d, had %v, set %v: %d %v, done is %v", turn, had, v, c.Turn(), c.Get(), done)
			}
		})
		if olds == 0 || news == 0 {
			t.Errorf("turn %d: %d times what it had, %d times what is new", turn, olds, news)
		}
		c := open(t, d, 0)
		wantErr(t, "Set", c.Set(v), api.OK)
		had, turn = v, turn+1
	}
}

// P4.3: around the turns whose numbers change in more bytes than one.
func TestSetIsAllOrNothingAtCarries(t *testing.T) {
	for _, turn := range []int64{254, 255, 256, 257, 1<<16 - 1, 1 << 16, 1<<32 - 1, 1 << 32, 1<<62 - 1} {
		had, v := [3]int64{turn, -turn, 5}, [3]int64{-turn, turn, 6}
		sectors := [2][]byte{}
		sectors[(turn+1)%2] = twice(turn, had)
		sectors[turn%2] = twice(turn-1, v)
		crashes(t, laid(t, sectors[0], sectors[1]), v, func(x *disk.Disk, done bool) {
			c := open(t, x, 0)
			old := c.Turn() == turn && c.Get() == had && !done
			if !old && (c.Turn() != turn+1 || c.Get() != v) {
				t.Errorf("turn %d: %d %v, done is %v", turn, c.Turn(), c.Get(), done)
			}
		})
	}
}

// P4.3: a crash behind a crash: a Set that was torn, another one that is, and
// one that is done, each with bytes of its own.
func TestSetBehindTornSet(t *testing.T) {
	first, second := [3]int64{0x0101010101010101, 0x0202020202020202, 0x0303030303030303}, [3]int64{-2, -3, -4}
	d := disk.New(2)
	c := open(t, d, 0)
	wantErr(t, "Set", c.Set([3]int64{4, 5, 6}), api.OK)
	for torn := range api.SectorSize + 1 {
		x := d.Clone()
		c := open(t, x, 0)
		x.Arm(1)
		wantErr(t, "torn", c.Set(first), api.ErrDown)
		x.Crash(0, torn)
		c = open(t, x, 0)
		turn, had := c.Turn(), c.Get()
		crashes(t, x, second, func(y *disk.Disk, done bool) {
			c := open(t, y, 0)
			old := c.Turn() == turn && c.Get() == had && !done
			if !old && (c.Turn() != turn+1 || c.Get() != second) {
				t.Errorf("torn %d: %d %v, done is %v", torn, c.Turn(), c.Get(), done)
			}
		})
		wantErr(t, "Set", c.Set([3]int64{1, 1, 1}), api.OK)
		wantCell(t, "whole again", open(t, x, 0), turn+1, [3]int64{1, 1, 1})
	}
}

// P4.4: what Get told is the caller's, and what Set was handed stays the
// caller's.
func TestToldIsAValue(t *testing.T) {
	d := disk.New(2)
	c := open(t, d, 0)
	v := [3]int64{1, 2, 3}
	wantErr(t, "Set", c.Set(v), api.OK)
	v[0], v[2] = 9, 9
	wantCell(t, "what was handed in is changed", c, 1, [3]int64{1, 2, 3})
	got := c.Get()
	got[1] = 9
	wantCell(t, "what was told is changed", c, 1, [3]int64{1, 2, 3})
	got = c.Get()
	wantErr(t, "Set", c.Set([3]int64{4, 5, 6}), api.OK)
	if got != [3]int64{1, 2, 3} {
		t.Errorf("a Set changed what was told: %v", got)
	}
	wantSector(t, "on the disk", d, 0, twice(1, [3]int64{1, 2, 3}))
}

// The chapter's examples.
func TestExamples(t *testing.T) {
	d := disk.New(2)
	c := open(t, d, 0)
	wantCell(t, "noughts", c, 0, [3]int64{0, 0, 0})
	wantErr(t, "Set", c.Set([3]int64{7, 8, 9}), api.OK)
	wantCell(t, "Set", c, 1, [3]int64{7, 8, 9})
	wantSector(t, "Set", d, 0, numbers(1, 7, 8, 9, 1, 7, 8, 9))
	b := numbers(1, 7, 8, 9, 1, 7, 8, 9)
	b[40]++
	wantErr(t, "Write", d.Write(0, b), api.OK)
	wantCell(t, "a byte turned", open(t, d, 0), 0, [3]int64{0, 0, 0})
}
