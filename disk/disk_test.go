package disk_test

import (
	"bytes"
	"math"
	"strings"
	"testing"

	"pavane/api"
	"pavane/disk"
)

// padded answers s, and noughts up to a sector's size.
func padded(s string) string {
	return s + strings.Repeat("\x00", api.SectorSize-len(s))
}

func wantSector(t *testing.T, d *disk.Disk, i int, s string) {
	t.Helper()
	b, e := d.Read(i)
	if e != api.OK || string(b) != padded(s) {
		t.Errorf("sector %d: %q, %d, want %q", i, b, e, s)
	}
}

func wantErr(t *testing.T, what string, got, want api.Errno) {
	t.Helper()
	if got != want {
		t.Errorf("%s: %d, want %d", what, got, want)
	}
}

// wantReadErr also holds Read to its zero value beside an error.
func wantReadErr(t *testing.T, d *disk.Disk, i int, want api.Errno) {
	t.Helper()
	b, e := d.Read(i)
	if e != want || len(b) != 0 {
		t.Errorf("Read(%d): %q, %d, want %d", i, b, e, want)
	}
}

func wantWaits(t *testing.T, d *disk.Disk, n int) {
	t.Helper()
	if d.Waits() != n {
		t.Errorf("Waits: %d, want %d", d.Waits(), n)
	}
}

func wantDown(t *testing.T, what string, d *disk.Disk, down bool) {
	t.Helper()
	if d.Down() != down {
		t.Errorf("%s: Down is %v", what, d.Down())
	}
}

// put writes s and holds the write to OK.
func put(t *testing.T, d *disk.Disk, i int, s string) {
	t.Helper()
	wantErr(t, "Write", d.Write(i, []byte(s)), api.OK)
}

func flush(t *testing.T, d *disk.Disk) {
	t.Helper()
	wantErr(t, "Flush", d.Flush(), api.OK)
}

// P3.1: the number of sectors, at the edges of what it is clamped to; a new
// disk has noughts, waits for nothing and is up.
func TestNew(t *testing.T) {
	sizes := []struct{ sectors, size int }{
		{math.MinInt, 1}, {-1, 1}, {0, 1}, {1, 1}, {2, 2}, {3, 3}, {100, 100},
		{api.MaxSectors - 1, api.MaxSectors - 1}, {api.MaxSectors, api.MaxSectors},
		{api.MaxSectors + 1, api.MaxSectors}, {math.MaxInt, api.MaxSectors},
	}
	for _, c := range sizes {
		d := disk.New(c.sectors)
		if d.Size() != c.size {
			t.Errorf("New(%d): Size %d, want %d", c.sectors, d.Size(), c.size)
		}
		wantSector(t, d, 0, "")
		wantSector(t, d, c.size-1, "")
		wantReadErr(t, d, c.size, api.ErrRange)
		wantWaits(t, d, 0)
		wantDown(t, "new", d, false)
	}
}

// P3.1: every sector is noughts at first, and has a place of its own.
func TestSectorsAreApart(t *testing.T) {
	d := disk.New(256)
	for i := range 256 {
		wantSector(t, d, i, "")
	}
	for i := range 256 {
		put(t, d, i, string([]byte{byte(i), 1}))
	}
	for range 2 {
		for i := range 256 {
			wantSector(t, d, i, string([]byte{byte(i), 1}))
		}
		flush(t, d)
	}
}

// P3.1: Waits counts the writes, those of one sector too; what is refused is
// none; a disk that is down tells them on, and its size.
func TestWaits(t *testing.T) {
	d := disk.New(2)
	put(t, d, 0, "a")
	put(t, d, 0, "a")
	put(t, d, 1, "b")
	d.Write(2, nil)
	d.Write(0, make([]byte, api.SectorSize+1))
	wantWaits(t, d, 3)
	d.Arm(0)
	d.Write(0, nil)
	d.Flush()
	wantWaits(t, d, 3)
	if d.Size() != 2 {
		t.Errorf("Size of a disk that is down: %d", d.Size())
	}
}

// P3.1: a clone is the same in all: what is lasting, the buffer with its
// order, what it is armed with, whether it is down.
func TestCloneIsTheSame(t *testing.T) {
	d := disk.New(3)
	put(t, d, 2, "old")
	flush(t, d)
	put(t, d, 0, "one")
	put(t, d, 0, "two")
	put(t, d, 2, "new")
	d.Arm(2)
	c := d.Clone()
	if c.Size() != 3 {
		t.Errorf("Size: %d", c.Size())
	}
	wantWaits(t, c, 3)
	wantSector(t, c, 0, "two")
	wantSector(t, c, 1, "")
	wantSector(t, c, 2, "new")

	wantErr(t, "the first change of two", c.Write(1, nil), api.OK)
	wantDown(t, "one change behind", c, false)
	wantErr(t, "the last change of two", c.Flush(), api.OK)
	wantDown(t, "two changes behind", c, true)

	down := c.Clone()
	wantDown(t, "clone of one that is down", down, true)
	wantErr(t, "Write", down.Write(0, nil), api.ErrDown)
	down.Arm(-1)
	wantDown(t, "clone of one that is down, Arm", down, true)

	torn := d.Clone()
	torn.Crash(2, 1)
	wantSector(t, torn, 0, "two")
	wantSector(t, torn, 2, "nld")
}

// P3.1: what is done to a disk is not seen by its clone, nor the other way
// round, whether it is in the buffer, lasting, or armed.
func TestCloneIsApart(t *testing.T) {
	d := disk.New(2)
	put(t, d, 0, "last")
	flush(t, d)
	for range 3 {
		put(t, d, 1, "both")
	}
	c := d.Clone()
	put(t, d, 0, "of d")
	put(t, c, 0, "of c")
	wantSector(t, d, 0, "of d")
	wantSector(t, c, 0, "of c")

	flush(t, d)
	wantWaits(t, c, 4)
	c.Crash(0, 0)
	wantSector(t, c, 0, "last")
	wantSector(t, c, 1, "")
	wantSector(t, d, 0, "of d")
	wantSector(t, d, 1, "both")

	c.Arm(0)
	wantDown(t, "the clone is armed", d, false)
	c.Crash(0, 0)
	d.Arm(0)
	wantDown(t, "the first is armed", c, false)
	d.Clone().Crash(0, 0)
	wantDown(t, "a clone crashed", d, true)
}

// P3.2: the errors of Read and Write, at the edges, and in their order; what
// is refused changes nothing.
func TestRefused(t *testing.T) {
	d := disk.New(3)
	put(t, d, 1, "here")
	long := make([]byte, api.SectorSize+1)
	for _, i := range []int{3, 4, -1, api.MaxSectors, math.MaxInt, math.MinInt} {
		wantReadErr(t, d, i, api.ErrRange)
		wantErr(t, "no such sector", d.Write(i, nil), api.ErrRange)
		wantErr(t, "no such sector, and long", d.Write(i, long), api.ErrRange)
	}
	wantErr(t, "long", d.Write(1, long), api.ErrLong)
	wantErr(t, "very long", d.Write(1, make([]byte, 1<<20)), api.ErrLong)
	wantWaits(t, d, 1)
	wantSector(t, d, 1, "here")

	d.Arm(0)
	for _, i := range []int{0, 1, 3, -1} {
		wantReadErr(t, d, i, api.ErrDown)
		wantErr(t, "down", d.Write(i, nil), api.ErrDown)
		wantErr(t, "down, and long", d.Write(i, long), api.ErrDown)
	}
	wantErr(t, "down", d.Flush(), api.ErrDown)
	wantWaits(t, d, 1)
	d.Crash(0, 0)
	wantSector(t, d, 1, "")
}

// P3.2: data of every length that there may be, and noughts up to a sector's
// size, whatever was told ahead of it.
func TestWriteLengths(t *testing.T) {
	d := disk.New(1)
	full := strings.Repeat("x", api.SectorSize)
	for n := range api.SectorSize + 1 {
		put(t, d, 0, full)
		put(t, d, 0, full[:n])
		wantSector(t, d, 0, full[:n])
		flush(t, d)
		wantSector(t, d, 0, full[:n])
	}
	put(t, d, 0, full)
	wantErr(t, "nil", d.Write(0, nil), api.OK)
	wantSector(t, d, 0, "")
}

// P3.2: of several writes the last one is told, in the buffer and behind a
// Flush, whatever stands between and behind them.
func TestLastWriteIsTold(t *testing.T) {
	d := disk.New(3)
	put(t, d, 1, "lasting")
	flush(t, d)
	put(t, d, 0, "a1")
	put(t, d, 1, "b1")
	put(t, d, 0, "a2")
	put(t, d, 1, "b2")
	put(t, d, 2, "c1")
	for range 2 {
		wantSector(t, d, 0, "a2")
		wantSector(t, d, 1, "b2")
		wantSector(t, d, 2, "c1")
		flush(t, d)
	}
}

// P3.2: Flush leaves no write, so that no crash behind it takes any away; of
// what is written behind it a crash does.
func TestFlush(t *testing.T) {
	d := disk.New(2)
	put(t, d, 0, "ab")
	put(t, d, 0, "cd")
	flush(t, d)
	wantWaits(t, d, 0)
	put(t, d, 0, "ef")
	put(t, d, 1, "gh")
	wantWaits(t, d, 2)
	d.Crash(0, 0)
	wantSector(t, d, 0, "cd")
	wantSector(t, d, 1, "")
	flush(t, d)
	wantSector(t, d, 0, "cd")
	wantSector(t, d, 1, "")
}

// change does a Write and a Flush by turns.
func change(d *disk.Disk, n int) api.Errno {
	if n%2 == 0 {
		return d.Write(0, []byte{byte(n + 1)})
	}
	return d.Flush()
}

// P3.3: armed with n, the disk is up till n changes more are done, and the
// last one is done and answers OK; what is read or refused is no change.
func TestArm(t *testing.T) {
	for n := range 9 {
		d := disk.New(1)
		d.Arm(n)
		for k := range n {
			wantDown(t, "a change is left", d, false)
			d.Read(0)
			d.Write(1, nil)
			d.Write(0, make([]byte, api.SectorSize+1))
			wantDown(t, "what is refused", d, false)
			wantErr(t, "armed", change(d, k), api.OK)
		}
		wantDown(t, "none is left", d, true)
		wantErr(t, "down", change(d, n), api.ErrDown)
		wantWaits(t, d, n%2)
		d.Crash(1, 0)
		want := ""
		if n > 0 {
			want = string([]byte{byte((n-1)/2*2 + 1)})
		}
		wantSector(t, d, 0, want)
	}
}

// P3.3: a Flush of an empty buffer is a change, too.
func TestArmCountsEmptyFlush(t *testing.T) {
	d := disk.New(1)
	d.Arm(2)
	flush(t, d)
	wantDown(t, "the first", d, false)
	flush(t, d)
	wantDown(t, "the second", d, true)
}

// P3.3: a disk that isn't armed stays up, however many changes are done; n
// below 0 makes it one; another n takes the first one's place.
func TestArmAnew(t *testing.T) {
	changes := func(d *disk.Disk, n int) {
		t.Helper()
		for k := range n {
			wantErr(t, "up", change(d, k), api.OK)
		}
	}
	d := disk.New(1)
	changes(d, 1000)
	wantDown(t, "never armed", d, false)
	for _, n := range []int{-1, -2, math.MinInt} {
		d.Arm(2)
		changes(d, 1)
		d.Arm(n)
		changes(d, 100)
		wantDown(t, "armed no longer", d, false)
		d.Arm(n)
		changes(d, 1)
	}
	d.Arm(1)
	d.Arm(3)
	changes(d, 2)
	wantDown(t, "armed anew with more", d, false)
	d.Arm(math.MaxInt)
	changes(d, 100)
	wantDown(t, "armed with the most", d, false)
	d.Arm(1)
	changes(d, 1)
	wantDown(t, "armed anew with less", d, true)
}

// P3.3: of a disk that is down Arm changes nothing, now or behind a crash.
func TestArmWhenDown(t *testing.T) {
	for _, n := range []int{math.MinInt, -1, 0, 1, 2, math.MaxInt} {
		d := disk.New(1)
		d.Arm(0)
		d.Arm(n)
		wantDown(t, "Arm on one that is down", d, true)
		d.Crash(0, 0)
		wantDown(t, "Crash", d, false)
		for k := range 4 {
			wantErr(t, "behind the crash", change(d, k), api.OK)
		}
		wantDown(t, "not armed behind the crash", d, false)
	}
}

// torn answers what the chapter says of a sector with the bytes old, when the
// first n bytes of a write of new came to it.
func torn(old, new string, n int) string {
	n = min(max(n, 0), api.SectorSize)
	return new[:n] + old[n:]
}

// P3.4: a crash at every keep and at every torn, those beyond the edges too:
// the first writes are lasting, of the next one so many bytes, of the others
// nothing.
func TestCrash(t *testing.T) {
	a, b := strings.Repeat("a", api.SectorSize), strings.Repeat("b", api.SectorSize)
	c, old := strings.Repeat("c", api.SectorSize), strings.Repeat("-", api.SectorSize)
	first := disk.New(2)
	put(t, first, 0, old)
	put(t, first, 1, old)
	flush(t, first)
	put(t, first, 0, a)
	put(t, first, 1, b)
	put(t, first, 0, c)
	cuts := []int{math.MinInt, -1, api.SectorSize + 1, math.MaxInt}
	for n := range api.SectorSize + 1 {
		cuts = append(cuts, n)
	}
	for _, n := range cuts {
		wants := []struct {
			keep     int
			one, two string
		}{
			{math.MinInt, torn(old, a, n), old}, {-1, torn(old, a, n), old}, {0, torn(old, a, n), old},
			{1, a, torn(old, b, n)}, {2, torn(a, c, n), b},
			{3, c, b}, {4, c, b}, {math.MaxInt, c, b},
		}
		for _, w := range wants {
			d := first.Clone()
			d.Crash(w.keep, n)
			wantWaits(t, d, 0)
			wantSector(t, d, 0, w.one)
			wantSector(t, d, 1, w.two)
			flush(t, d)
			wantSector(t, d, 0, w.one)
			wantSector(t, d, 1, w.two)
		}
	}
}

// P3.4: the noughts behind short data are the write's, too.
func TestCrashTearsNoughts(t *testing.T) {
	d := disk.New(1)
	put(t, d, 0, "abcdef")
	flush(t, d)
	put(t, d, 0, "x")
	d.Crash(0, 4)
	wantSector(t, d, 0, "x\x00\x00\x00ef")
}

// P3.4: behind a crash the disk is up and not armed, whether it was down,
// armed or neither; a crash of an empty buffer changes no sector.
func TestCrashBringsUp(t *testing.T) {
	for _, n := range []int{-1, 0, 1, 5} {
		d := disk.New(1)
		put(t, d, 0, "kept")
		flush(t, d)
		d.Arm(n)
		d.Crash(9, 9)
		wantDown(t, "crashed", d, false)
		wantSector(t, d, 0, "kept")
		for k := range 10 {
			wantErr(t, "behind the crash", change(d, k), api.OK)
		}
		wantDown(t, "not armed", d, false)
	}
}

// P3.4: the power goes behind the last change that an armed disk does: its
// buffer stands till the crash says what is kept.
func TestCrashOfArmed(t *testing.T) {
	first := disk.New(2)
	first.Arm(2)
	put(t, first, 0, "one")
	put(t, first, 1, "two")
	wantErr(t, "down", first.Flush(), api.ErrDown)
	wantWaits(t, first, 2)
	d := first.Clone()
	d.Crash(2, 0)
	wantSector(t, d, 0, "one")
	wantSector(t, d, 1, "two")
	first.Crash(1, 1)
	wantSector(t, first, 0, "one")
	wantSector(t, first, 1, "t")
}

// P3.5: data that is changed behind a Write, its spare room too, changes
// nothing; and a Write, Flush or Crash changes no data that was handed in.
func TestWriteKeepsNothing(t *testing.T) {
	d := disk.New(2)
	room := bytes.Repeat([]byte("r"), 2*api.SectorSize)
	wantErr(t, "Write", d.Write(0, room[:3]), api.OK)
	wantErr(t, "Write", d.Write(1, room[:api.SectorSize]), api.OK)
	if string(room) != strings.Repeat("r", 2*api.SectorSize) {
		t.Errorf("the data was changed: %q", room)
	}
	clear(room)
	wantSector(t, d, 0, "rrr")
	wantSector(t, d, 1, strings.Repeat("r", api.SectorSize))
	flush(t, d)
	put(t, d, 0, "xyz")
	d.Crash(1, 0)
	if string(room) != strings.Repeat("\x00", 2*api.SectorSize) {
		t.Errorf("the data was changed: %q", room)
	}
	wantSector(t, d, 1, strings.Repeat("r", api.SectorSize))
}

// P3.5: what Read answered is the caller's: changing it, or putting more
// behind it, changes neither the disk nor another answer; and no later change
// of the disk changes it.
func TestReadIsNewMemory(t *testing.T) {
	d := disk.New(2)
	put(t, d, 0, "buffered")
	for range 2 {
		mine, _ := d.Read(0)
		other, _ := d.Read(0)
		for i := range mine {
			mine[i] = '!'
		}
		mine = append(mine, "and more"...)
		wantSector(t, d, 0, "buffered")
		wantSector(t, d, 1, "")
		if string(other) != padded("buffered") {
			t.Errorf("another answer: %q", other)
		}
		flush(t, d)
	}
	old, _ := d.Read(0)
	put(t, d, 0, "new")
	flush(t, d)
	d.Crash(0, 0)
	if string(old) != padded("buffered") {
		t.Errorf("an answer was changed: %q", old)
	}
}

// The chapter's examples.
func TestExamples(t *testing.T) {
	d := disk.New(2)
	put(t, d, 0, "ab")
	put(t, d, 0, "cd")
	wantSector(t, d, 0, "cd")
	d.Crash(1, 1)
	wantSector(t, d, 0, "cb")
	d.Arm(1)
	put(t, d, 0, "ef")
	wantDown(t, "armed with 1", d, true)
	wantReadErr(t, d, 0, api.ErrDown)
}
