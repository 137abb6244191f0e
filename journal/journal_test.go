package journal_test

import (
	"bytes"
	"encoding/binary"
	"encoding/hex"
	"hash/crc32"
	"math"
	"strings"
	"testing"

	"pavane/api"
	"pavane/disk"
	"pavane/journal"
)

// frame answers the chapter's frame of b: how many bytes it has, their sum,
// and they.
func frame(b []byte) []byte {
	return headed(int64(len(b)), int64(crc32.ChecksumIEEE(b)), b)
}

// headed answers b with these two numbers ahead of it, be they right or wrong.
func headed(length, sum int64, b []byte) []byte {
	f := binary.BigEndian.AppendUint64(nil, uint64(length))
	f = binary.BigEndian.AppendUint64(f, uint64(sum))
	return append(f, b...)
}

// texts answers lists of bytes.
func texts(ts ...string) [][]byte {
	var l [][]byte
	for _, s := range ts {
		l = append(l, []byte(s))
	}
	return l
}

// frames answers the frames of all of l, one behind the other.
func frames(l [][]byte) []byte {
	var b []byte
	for _, x := range l {
		b = append(b, frame(x)...)
	}
	return b
}

// laid answers a disk with b lasting from the sector first on.
func laid(t *testing.T, size, first int, b []byte) *disk.Disk {
	t.Helper()
	d := disk.New(size)
	lay(t, d, first, b)
	return d
}

func lay(t *testing.T, d *disk.Disk, first int, b []byte) {
	t.Helper()
	for i := first; len(b) > 0; i++ {
		n := min(len(b), api.SectorSize)
		wantErr(t, "Write", d.Write(i, b[:n]), api.OK)
		b = b[n:]
	}
	wantErr(t, "Flush", d.Flush(), api.OK)
}

// area answers the bytes of the disk's sectors from from up to ahead of to.
func area(t *testing.T, d *disk.Disk, from, to int) []byte {
	t.Helper()
	var b []byte
	for i := from; i < to; i++ {
		s, e := d.Read(i)
		wantErr(t, "Read", e, api.OK)
		b = append(b, s...)
	}
	return b
}

func wantErr(t *testing.T, what string, got, want api.Errno) {
	t.Helper()
	if got != want {
		t.Errorf("%s: %d, want %d", what, got, want)
	}
}

func wantHas(t *testing.T, what string, j *journal.Journal, end, count int64) {
	t.Helper()
	if j.End() != end || j.Count() != count {
		t.Errorf("%s: end %d, count %d, want %d, %d", what, j.End(), j.Count(), end, count)
	}
}

func wantBytes(t *testing.T, what string, got, want []byte) {
	t.Helper()
	if !bytes.Equal(got, want) {
		t.Errorf("%s: %x, want %x", what, got, want)
	}
}

func same(a, b [][]byte) bool {
	if len(a) != len(b) {
		return false
	}
	for i := range a {
		if !bytes.Equal(a[i], b[i]) {
			return false
		}
	}
	return true
}

// open opens a journal and holds it to OK, and to these frames.
func open(t *testing.T, d *disk.Disk, from, to int, want [][]byte) *journal.Journal {
	t.Helper()
	end, count := int64(len(frames(want))), int64(len(want))
	j, l, e := journal.Open(d, from, to, end, count)
	if e != api.OK || j == nil {
		t.Fatalf("Open(%d, %d, %d, %d): %v, %d", from, to, end, count, j, e)
	}
	if !same(l, want) {
		t.Fatalf("Open(%d, %d, %d, %d): %q, want %q", from, to, end, count, l, want)
	}
	wantHas(t, "opened", j, end, count)
	return j
}

// wantOpenErr also holds Open to its zero values beside an error.
func wantOpenErr(t *testing.T, d *disk.Disk, from, to int, end, count int64, want api.Errno) {
	t.Helper()
	j, l, e := journal.Open(d, from, to, end, count)
	if e != want || j != nil || len(l) != 0 {
		t.Errorf("Open(%d, %d, %d, %d): %v, %q, %d, want %d", from, to, end, count, j, l, e, want)
	}
}

// P5.1: an area is any sectors of the disk, none among them, and no others.
func TestOpenArea(t *testing.T) {
	d := disk.New(4)
	for from := -2; from <= 6; from++ {
		for to := -2; to <= 6; to++ {
			if from >= 0 && to <= 4 && from <= to {
				open(t, d, from, to, nil)
			} else {
				wantOpenErr(t, d, from, to, 0, 0, api.ErrArg)
			}
		}
	}
	far := []int{math.MinInt, math.MinInt + 1, math.MaxInt - 1, math.MaxInt, 1 << 58, -1 << 58}
	for _, n := range far {
		wantOpenErr(t, d, n, 4, 0, 0, api.ErrArg)
		wantOpenErr(t, d, 0, n, 0, 0, api.ErrArg)
		wantOpenErr(t, d, n, n, 0, 0, api.ErrArg)
	}
	open(t, disk.New(api.MaxSectors), 0, api.MaxSectors, nil)
	open(t, disk.New(api.MaxSectors), api.MaxSectors, api.MaxSectors, nil)
}

// P5.1: the end lies in the area, or just behind it.
func TestOpenEnd(t *testing.T) {
	d := disk.New(5)
	for from := range 5 {
		for to := from; to <= 5; to++ {
			room := int64(to-from) * api.SectorSize
			for _, end := range []int64{-1, room + 1, room + 16, room + 64, math.MinInt64, math.MaxInt64} {
				wantOpenErr(t, d, from, to, end, 0, api.ErrSpoilt)
				wantOpenErr(t, d, from, to, end, end/16, api.ErrSpoilt)
			}
			open(t, d, from, to, make([][]byte, room/16))
		}
	}
}

// P5.1: of several errors the first one: the area's, the end's, the disk's,
// the frames'; a disk that is down says so of an area without a byte, too.
func TestOpenErrorsInOrder(t *testing.T) {
	d := laid(t, 4, 0, bytes.Repeat([]byte{255}, 256))
	wantOpenErr(t, d, 0, 4, 16, 1, api.ErrSpoilt)
	wantOpenErr(t, d, 3, 2, -1, 0, api.ErrArg)
	wantOpenErr(t, d, -1, 2, 999, 0, api.ErrArg)
	wantOpenErr(t, d, 0, 5, -1, 0, api.ErrArg)
	d.Arm(0)
	wantOpenErr(t, d, -1, 2, 0, 0, api.ErrArg)
	wantOpenErr(t, d, 0, 5, 0, 0, api.ErrArg)
	wantOpenErr(t, d, 2, 1, -1, 0, api.ErrArg)
	wantOpenErr(t, d, 0, 4, -1, 0, api.ErrSpoilt)
	wantOpenErr(t, d, 0, 4, 257, 0, api.ErrSpoilt)
	wantOpenErr(t, d, 2, 2, 1, 0, api.ErrSpoilt)
	wantOpenErr(t, d, 0, 4, 0, 0, api.ErrDown)
	wantOpenErr(t, d, 2, 2, 0, 0, api.ErrDown)
	wantOpenErr(t, d, 0, 4, 16, 1, api.ErrDown)
	wantOpenErr(t, d, 0, 4, 0, 1, api.ErrDown)
	d.Crash(0, 0)
	open(t, d, 0, 4, nil)
	open(t, d, 2, 2, nil)
}

// lists are lists of frames' bytes: none, empty ones, such that fill a sector
// or go over its edge by one byte, and long ones.
func lists() [][][]byte {
	a := func(n int) string { return strings.Repeat("a", n) }
	return [][][]byte{
		nil, texts(""), texts("", "", "", "", ""), texts("abc"), texts("abc", "", "de"), texts(a(47)), texts(a(48)),
		texts(a(49)), texts(a(48), a(48)), texts(a(112)), texts(a(113)), texts(a(32), "b"), texts(a(33), "b"),
		texts(a(31), "b"), texts("\x00\x00", "\xff\xff"), texts(a(200), "", a(120), "z"), texts(string(frame([]byte("x")))),
	}
}

// P5.1: the frames that stand there are told in order, wherever the area lies,
// and whatever stands behind the end.
func TestOpenFrames(t *testing.T) {
	for _, l := range lists() {
		b := frames(l)
		for from := range 3 {
			for _, rest := range [][]byte{nil, bytes.Repeat([]byte{255}, 100), frame([]byte("behind"))} {
				d := laid(t, 16, from, append(bytes.Clone(b), rest...))
				open(t, d, from, 16, l)
				open(t, d, from, from+(len(b)+63)/64, l)
			}
		}
	}
}

// P5.1: the number of frames is told, too: none more, none less.
func TestOpenCount(t *testing.T) {
	for _, l := range lists() {
		d := laid(t, 16, 1, frames(l))
		end, n := int64(len(frames(l))), int64(len(l))
		for _, count := range []int64{n - 1, n + 1, -n - 1, 0, 1, -1, n + 1<<32, math.MinInt64, math.MaxInt64} {
			if count != n {
				wantOpenErr(t, d, 1, 16, end, count, api.ErrSpoilt)
			}
		}
	}
}

// P5.1: an end within a frame, at whichever byte, is none, however many frames
// are asked for; each frame's own end is one.
func TestOpenEndWithinFrames(t *testing.T) {
	l := texts("abc", "", strings.Repeat("d", 70), "e")
	d := laid(t, 4, 0, frames(l))
	ends := map[int64]int64{}
	for n := range len(l) + 1 {
		ends[int64(len(frames(l[:n])))] = int64(n)
		open(t, d, 0, 4, l[:n])
	}
	for end := range int64(len(frames(l))) {
		want, whole := ends[end]
		for count := range int64(6) {
			if !whole || count != want {
				wantOpenErr(t, d, 0, 4, end, count, api.ErrSpoilt)
			}
		}
	}
}

// P5.1: a bit turned anywhere within the frames is told, one turned behind
// them is not.
func TestOpenTurnedBits(t *testing.T) {
	l := texts("abc", "\x00\x01", "", strings.Repeat("d", 60))
	b := frames(l)
	d := laid(t, 4, 1, b)
	for bit := range 8 * 192 {
		x := append(bytes.Clone(b), make([]byte, 192-len(b))...)
		x[bit/8] ^= 1 << (bit % 8)
		lay(t, d, 1, x)
		if bit/8 < len(b) {
			wantOpenErr(t, d, 1, 4, int64(len(b)), 4, api.ErrSpoilt)
		} else {
			open(t, d, 1, 4, l)
		}
	}
}

// P5.1: lengths that lie or are no lengths at all, and sums that are right in
// their low bits alone.
func TestOpenWrongHeads(t *testing.T) {
	text := []byte("some text")
	sum, none := int64(crc32.ChecksumIEEE(text)), int64(0)
	lengths := []int64{
		-1, 8, 10, 16, 25, 64, 128, 1 << 32, 1<<32 + 9, 1<<62 + 9, math.MaxInt64, math.MaxInt64 - 15, math.MaxInt64 - 16,
		math.MaxInt64 - 24, math.MaxInt64 - 25, math.MinInt64, math.MinInt64 + 9, -9, -16, -25, -7,
	}
	for _, n := range lengths {
		d := laid(t, 2, 0, headed(n, sum, text))
		for count := range int64(4) {
			wantOpenErr(t, d, 0, 2, 25, count, api.ErrSpoilt)
		}
		d = laid(t, 2, 0, headed(n, none, nil))
		for count := range int64(4) {
			wantOpenErr(t, d, 0, 2, 16, count, api.ErrSpoilt)
		}
	}
	for _, s := range []int64{sum + 1<<32, sum - 1<<32, sum + math.MinInt64, sum + 1, sum - 1, ^sum, -sum, none} {
		wantOpenErr(t, laid(t, 2, 0, headed(9, s, text)), 0, 2, 25, 1, api.ErrSpoilt)
	}
	// The sum's highest bit is set: as a number it isn't below 0.
	high := []byte("123456789")
	open(t, laid(t, 2, 0, headed(9, 0xcbf43926, high)), 0, 2, [][]byte{high})
	wantOpenErr(t, laid(t, 2, 0, headed(9, 0xcbf43926-1<<32, high)), 0, 2, 25, 1, api.ErrSpoilt)
}

// P5.1: each frame has its own sum: two that are changed for each other are
// told.
func TestOpenSumsChanged(t *testing.T) {
	a, b := []byte("one"), []byte("two")
	x := headed(3, int64(crc32.ChecksumIEEE(b)), a)
	x = append(x, headed(3, int64(crc32.ChecksumIEEE(a)), b)...)
	wantOpenErr(t, laid(t, 1, 0, x), 0, 1, 38, 2, api.ErrSpoilt)
	open(t, laid(t, 1, 0, frames([][]byte{b, a})), 0, 1, [][]byte{b, a})
}

// P5.1: a frame may have as many bytes as there is room for: that it could not
// be appended says nothing of whether it is one.
func TestOpenGreatFrame(t *testing.T) {
	most := api.MaxSectors * api.SectorSize
	d := disk.New(api.MaxSectors)
	great := make([]byte, most-16)
	great[most/2], great[most-17] = 1, 2
	lay(t, d, 0, frame(great))
	open(t, d, 0, api.MaxSectors, [][]byte{great})
	wantOpenErr(t, d, 0, api.MaxSectors, int64(most)-1, 1, api.ErrSpoilt)
	wantOpenErr(t, d, 0, api.MaxSectors-1, int64(most), 1, api.ErrSpoilt)
}

// P5.1: an area of noughts is one of empty frames, however many fit.
func TestOpenNoughts(t *testing.T) {
	const all = api.MaxSectors * api.SectorSize / 16
	open(t, disk.New(api.MaxSectors), 0, api.MaxSectors, make([][]byte, all))
	wantOpenErr(t, disk.New(api.MaxSectors), 0, api.MaxSectors, all*16, all-1, api.ErrSpoilt)
	wantOpenErr(t, disk.New(1), 0, 1, 8, 0, api.ErrSpoilt)
	wantOpenErr(t, disk.New(1), 0, 1, 24, 1, api.ErrSpoilt)
}

// P5.1: Open reads what is told of the sectors, be it in the buffer alone, and
// changes nothing.
func TestOpenReadsAlone(t *testing.T) {
	l, newer := texts("lasting"), texts("waiting")
	d := laid(t, 2, 1, frames(l))
	wantErr(t, "Write", d.Write(1, frames(newer)), api.OK)
	d.Arm(1)
	for range 3 {
		open(t, d, 1, 2, newer)
	}
	if d.Waits() != 1 || d.Down() {
		t.Errorf("Waits %d, Down %v", d.Waits(), d.Down())
	}
	d.Crash(0, 0)
	open(t, d, 1, 2, l)
}

// P5.1: End and Count tell on what the journal has, whatever becomes of the
// disk and of other journals on it.
func TestOlderJournalTellsOn(t *testing.T) {
	d := disk.New(4)
	older := open(t, d, 0, 4, nil)
	wantErr(t, "Append", older.Append([]byte("one")), api.OK)
	newer := open(t, d, 0, 4, texts("one"))
	wantErr(t, "Append", newer.Append([]byte("two")), api.OK)
	wantHas(t, "older", older, 19, 1)
	wantHas(t, "newer", newer, 38, 2)
	lay(t, d, 0, bytes.Repeat([]byte{255}, 256))
	d.Arm(0)
	wantHas(t, "down", newer, 38, 2)
	d.Crash(0, 0)
	wantHas(t, "spoilt", newer, 38, 2)
	wantErr(t, "Append", older.Append([]byte("six")), api.OK)
	wantHas(t, "older goes on from its own end", older, 38, 2)
	wantBytes(t, "older", area(t, d, 0, 1)[19:38], frame([]byte("six")))
}

// P5.2: frames of whatever lengths are appended one behind the other, told
// again, and lasting at once; no other sector is touched.
func TestAppend(t *testing.T) {
	for _, l := range lists() {
		d := disk.New(20)
		left, right := bytes.Repeat([]byte("left"), 16), bytes.Repeat([]byte("rght"), 16)
		lay(t, d, 1, left)
		lay(t, d, 18, right)
		j := open(t, d, 2, 18, nil)
		for n, b := range l {
			wantErr(t, "Append", j.Append(b), api.OK)
			all := frames(l[:n+1])
			wantHas(t, "Append", j, int64(len(all)), int64(n+1))
			if d.Waits() != 0 {
				t.Errorf("%d writes wait", d.Waits())
			}
			all = append(all, make([]byte, 16*64-len(all))...)
			wantBytes(t, "the area", area(t, d, 2, 18), all)
			wantBytes(t, "ahead of it", area(t, d, 0, 2), append(make([]byte, 64), left...))
			wantBytes(t, "behind it", area(t, d, 18, 20), append(bytes.Clone(right), make([]byte, 64)...))
			crashed := d.Clone()
			crashed.Crash(0, 0)
			open(t, crashed, 2, 18, l[:n+1])
		}
	}
}

// P5.2: at every place within a sector, with lengths up to beyond two sectors,
// just those sectors are written that the frame lies in, in order: behind each
// number of changes, those that are done wait.
func TestAppendWritesItsSectors(t *testing.T) {
	for ahead := 0; ahead <= 72; ahead++ {
		for length := 0; length <= 150; length++ {
			l := texts(strings.Repeat("a", ahead))
			d := laid(t, 7, 1, frames(l))
			old := area(t, d, 0, 7)
			b := bytes.Repeat([]byte("b"), length)
			start := 64 + 16 + ahead
			first, last := start/64, (start+16+length-1)/64
			j := open(t, d, 1, 7, l)
			writes := last - first + 1
			d.Arm(writes)
			wantErr(t, "no change is left to flush", j.Append(b), api.ErrDown)
			if d.Waits() != writes {
				t.Fatalf("ahead %d, length %d: %d writes, want %d", ahead, length, d.Waits(), writes)
			}
			want := append(bytes.Clone(old[:start]), frame(b)...)
			want = append(want, make([]byte, 7*64-len(want))...)
			for keep := range writes + 1 {
				x := d.Clone()
				x.Crash(keep, 0)
				edge := (first + keep) * 64
				wantBytes(t, "written in order", area(t, x, 0, 7), append(bytes.Clone(want[:edge]), old[edge:]...))
			}
		}
	}
}

// P5.2: behind the frame its last sector has noughts, whatever stood there;
// the sectors behind it stay.
func TestAppendNoughtsBehind(t *testing.T) {
	for length := range 100 {
		d := laid(t, 3, 0, bytes.Repeat([]byte{255}, 192))
		j := open(t, d, 0, 3, nil)
		b := bytes.Repeat([]byte("b"), length)
		wantErr(t, "Append", j.Append(b), api.OK)
		edge := (16 + length + 63) / 64 * 64
		want := append(frame(b), make([]byte, edge-16-length)...)
		want = append(want, bytes.Repeat([]byte{255}, 192-edge)...)
		wantBytes(t, "behind", area(t, d, 0, 3), want)
	}
}

// P5.2: what stands ahead of the frame is what stands there then: what others
// wrote since, be it in the buffer alone; it is flushed with the frame.
func TestAppendReadsWhatStandsThere(t *testing.T) {
	d := disk.New(2)
	j := open(t, d, 0, 2, nil)
	wantErr(t, "Append", j.Append([]byte("one")), api.OK)
	wantErr(t, "Append", j.Append([]byte("two")), api.OK)
	others := bytes.Repeat([]byte{7}, 64)
	lay(t, d, 0, others)
	wantErr(t, "Append", j.Append([]byte("abc")), api.OK)
	want := append(bytes.Clone(others[:38]), frame([]byte("abc"))...)
	wantBytes(t, "written by others", area(t, d, 0, 1), append(want, make([]byte, 7)...))

	waiting := bytes.Repeat([]byte{9}, 64)
	wantErr(t, "Write", d.Write(0, waiting), api.OK)
	wantErr(t, "Append", j.Append([]byte("de")), api.OK)
	d.Crash(0, 0)
	want = append(bytes.Clone(waiting[:57]), frame([]byte("de"))...)
	wantBytes(t, "waiting", area(t, d, 0, 2), append(want, make([]byte, 128-len(want))...))
	wantHas(t, "by others", j, 75, 4)

	lay(t, d, 0, frames(texts("ONE", "TWO", "ABC", "DE")))
	wantErr(t, "Append", j.Append([]byte("f")), api.OK)
	open(t, d, 0, 2, texts("ONE", "TWO", "ABC", "DE", "f"))
}

// P5.2: a frame has 2^20 bytes at most, and that is said ahead of all else.
func TestAppendLong(t *testing.T) {
	longest := bytes.Repeat([]byte("long"), 1<<18)
	longer := append(bytes.Clone(longest), 1)
	sectors := (16 + 1<<20 + 63) / 64
	d := disk.New(sectors)
	j := open(t, d, 0, sectors, nil)
	d.Arm(1)
	wantErr(t, "too long", j.Append(longer), api.ErrLong)
	wantErr(t, "much too long", j.Append(append(longer, longest...)), api.ErrLong)
	wantHas(t, "too long", j, 0, 0)
	if d.Down() || d.Waits() != 0 {
		t.Error("the disk was changed")
	}
	d.Arm(-1)
	wantErr(t, "the longest", j.Append(longest), api.OK)
	wantHas(t, "the longest", j, 16+1<<20, 1)
	open(t, d, 0, sectors, [][]byte{longest})
	wantErr(t, "too long, and full", j.Append(longer), api.ErrLong)
	wantErr(t, "full", j.Append(longest), api.ErrFull)
	d.Arm(0)
	wantErr(t, "too long, full and down", j.Append(longer), api.ErrLong)

	short := open(t, disk.New(sectors), 0, sectors-1, nil)
	wantErr(t, "a sector too few", short.Append(longest), api.ErrFull)
	wantErr(t, "too long for it", short.Append(longer), api.ErrLong)
}

// P5.2: a frame that fits just so is appended, one that has a byte more is not,
// wherever the others end; that it is full is said ahead of that it is down.
func TestAppendFull(t *testing.T) {
	for sectors := range 4 {
		room := sectors * 64
		for ahead := 0; ahead+16 <= room; ahead++ {
			l := texts(strings.Repeat("a", ahead))
			d := laid(t, 6, 1, frames(l))
			old := area(t, d, 0, 6)
			j := open(t, d, 1, 1+sectors, l)
			left := room - 16 - ahead
			b := make([]byte, max(left-15, 0))
			d.Arm(1)
			wantErr(t, "a byte too many", j.Append(b), api.ErrFull)
			wantHas(t, "full", j, int64(16+ahead), 1)
			if d.Down() || d.Waits() != 0 {
				t.Error("the disk was changed")
			}
			d.Arm(0)
			wantErr(t, "full, and down", j.Append(b), api.ErrFull)
			d.Crash(0, 0)
			wantBytes(t, "full", area(t, d, 0, 6), old)
			if left < 16 {
				continue
			}
			fits := b[:left-16]
			wantErr(t, "just so", j.Append(fits), api.OK)
			wantHas(t, "just so", j, int64(room), 2)
			open(t, d, 1, 1+sectors, append(l, fits))
			wantErr(t, "full to the end", j.Append(nil), api.ErrFull)
		}
	}
	none := open(t, disk.New(3), 1, 1, nil)
	wantErr(t, "no sector at all", none.Append(nil), api.ErrFull)
	wantHas(t, "no sector at all", none, 0, 0)
}

// P5.2: with each number of changes that are left, the disk's error is told,
// and the journal has what it had; behind the flush it is OK, though the disk
// is down. A journal that was refused goes on behind a crash.
func TestAppendDown(t *testing.T) {
	l, b := texts("abc", ""), bytes.Repeat([]byte("b"), 100)
	for armed := range 6 {
		d := laid(t, 4, 0, frames(l))
		j := open(t, d, 0, 4, l)
		d.Arm(armed)
		e := j.Append(b)
		if armed >= 4 {
			wantErr(t, "behind the flush", e, api.OK)
			wantHas(t, "behind the flush", j, 151, 3)
		} else {
			wantErr(t, "down", e, api.ErrDown)
			wantHas(t, "down", j, 35, 2)
			if d.Waits() != armed {
				t.Errorf("armed with %d: %d wait", armed, d.Waits())
			}
			wantErr(t, "still down", j.Append(nil), api.ErrDown)
			wantHas(t, "still down", j, 35, 2)
		}
		if d.Down() != (armed <= 4) {
			t.Errorf("armed with %d: Down %v", armed, d.Down())
		}
		d.Crash(armed/2, 30)
		if e == api.OK {
			open(t, d, 0, 4, append(l, b))
			continue
		}
		wantErr(t, "goes on", j.Append([]byte("again")), api.OK)
		wantHas(t, "goes on", j, 56, 3)
		open(t, d, 0, 4, append(l, []byte("again")))
	}
}

// crashes cuts an Append of b off at every change, with every keep and torn,
// and hands each disk that comes of it to check.
func crashes(t *testing.T, d *disk.Disk, l [][]byte, b []byte, check func(x *disk.Disk, done bool)) {
	t.Helper()
	for armed := range 6 {
		cut := d.Clone()
		j := open(t, cut, 1, 5, l)
		cut.Arm(armed)
		done := j.Append(b) == api.OK
		for keep := -1; keep <= cut.Waits()+1; keep++ {
			for torn := -1; torn <= api.SectorSize+1; torn++ {
				x := cut.Clone()
				x.Crash(keep, torn)
				check(x, done)
			}
		}
	}
}

// P5.3: whichever change of an Append the power goes at, and whatever the disk
// keeps, the frames of ahead are there by their end and count; those of behind
// are, when it was OK.
func TestAppendSpoilsNothing(t *testing.T) {
	old := bytes.Repeat([]byte{255}, 256)
	for _, l := range [][][]byte{
		nil, texts("abc"), texts("", "b"), texts(strings.Repeat("c", 48)), texts(strings.Repeat("d", 47)),
		texts(strings.Repeat("e", 49), "f"), texts("g", strings.Repeat("h", 100)),
	} {
		for _, n := range []int{0, 1, 29, 30, 47, 48, 49, 90} {
			ahead := frames(l)
			d := laid(t, 6, 1, append(bytes.Clone(ahead), old[len(ahead):]...))
			b := bytes.Repeat([]byte{6}, n)
			dones := 0
			crashes(t, d, l, b, func(x *disk.Disk, done bool) {
				open(t, x, 1, 5, l)
				if done {
					dones++
					open(t, x, 1, 5, append(l[:len(l):len(l)], b))
				}
			})
			if dones == 0 {
				t.Error("no Append was OK")
			}
		}
	}
}

// P5.3: a crash behind a crash: an Append that was torn, another one that is,
// and one that is done.
func TestAppendBehindTornAppend(t *testing.T) {
	l := texts("abc", strings.Repeat("d", 20))
	long, short := bytes.Repeat([]byte{255}, 90), bytes.Repeat([]byte{7}, 33)
	for keep := range 3 {
		for torn := 0; torn <= api.SectorSize; torn += 3 {
			d := laid(t, 6, 1, frames(l))
			j := open(t, d, 1, 5, l)
			d.Arm(3)
			wantErr(t, "torn", j.Append(long), api.ErrDown)
			d.Crash(keep, torn)
			open(t, d, 1, 5, l)
			crashes(t, d, l, short, func(x *disk.Disk, done bool) {
				open(t, x, 1, 5, l)
				if done {
					open(t, x, 1, 5, append(l[:2:2], short))
				}
			})
			wantErr(t, "again", j.Append(short), api.OK)
			open(t, d, 1, 5, append(l[:2:2], short))
		}
	}
}

// P5.4: what Append was handed stays, its spare room, too, and isn't kept.
func TestHandedInStays(t *testing.T) {
	whole := bytes.Repeat([]byte("x"), 200)
	b := whole[50:100]
	copy(b, "handed in")
	kept := bytes.Clone(whole)
	d := disk.New(4)
	j := open(t, d, 0, 4, nil)
	wantErr(t, "Append", j.Append(b), api.OK)
	wantBytes(t, "behind Append", whole, kept)
	want := bytes.Clone(b)
	for i := range whole {
		whole[i] = 0
	}
	open(t, d, 0, 4, [][]byte{want})
	wantErr(t, "Append", j.Append(nil), api.OK)
	open(t, d, 0, 4, [][]byte{want, nil})
}

// P5.4: what Open told is the caller's: to write to it, or behind it, changes
// no other frame, no other answer, not the journal and not the disk.
func TestToldIsNewMemory(t *testing.T) {
	l := texts("one", "", "three", strings.Repeat("four", 30))
	d := laid(t, 4, 0, frames(l))
	end := int64(len(frames(l)))
	_, before, _ := journal.Open(d, 0, 4, end, 4)
	for i := range l {
		j, told, e := journal.Open(d, 0, 4, end, 4)
		wantErr(t, "Open", e, api.OK)
		whole := told[i][:cap(told[i])]
		for n := range whole {
			whole[n] ^= 255
		}
		_ = append(told[i], "more than there was"...)
		for n := range told {
			if n != i {
				wantBytes(t, "another frame", told[n], l[n])
			}
		}
		told[(i+1)%4] = nil
		wantHas(t, "the journal", j, end, 4)
		open(t, d, 0, 4, l)
	}
	if !same(before, l) {
		t.Errorf("an earlier answer: %q", before)
	}
	j := open(t, d, 0, 4, l)
	lay(t, d, 0, bytes.Repeat([]byte{255}, 256))
	wantErr(t, "Append", j.Append([]byte("five")), api.OK)
	if !same(before, l) {
		t.Errorf("an Append changed what was told: %q", before)
	}
}

// The chapter's examples.
func TestExamples(t *testing.T) {
	d := disk.New(2)
	j := open(t, d, 0, 2, nil)
	wantErr(t, "abc", j.Append([]byte("abc")), api.OK)
	wantHas(t, "abc", j, 19, 1)
	want, _ := hex.DecodeString("0000000000000003" + "00000000352441c2" + "616263")
	wantBytes(t, "abc", area(t, d, 0, 1)[:19], want)
	wantErr(t, "94 bytes", j.Append(make([]byte, 94)), api.ErrFull)
	wantErr(t, "93 bytes", j.Append(make([]byte, 93)), api.OK)
	wantHas(t, "93 bytes", j, 128, 2)
}
