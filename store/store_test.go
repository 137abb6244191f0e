package store_test

import (
	"bytes"
	"fmt"
	"maps"
	"math"
	"slices"
	"strings"
	"testing"

	"pavane/api"
	"pavane/disk"
	"pavane/store"
)

// put and gone are the two changes.
func put(key, value string) store.Change { return store.Change{Key: key, Value: value} }
func gone(key string) store.Change       { return store.Change{Key: key, Gone: true} }

// has is what a store has, as a map.
type has map[string]string

// lay makes b lasting from the sector first on.
func lay(t *testing.T, d *disk.Disk, first int, b []byte) {
	t.Helper()
	for i := first; len(b) > 0; i++ {
		n := min(len(b), api.SectorSize)
		wantErr(t, "Write", d.Write(i, b[:n]), api.OK)
		b = b[n:]
	}
	wantErr(t, "Flush", d.Flush(), api.OK)
}

// laid answers a disk whose cell tells these numbers at turn 1, with b from the
// sector first on.
func laid(t *testing.T, size int, area, end, count int64, first int, b []byte) *disk.Disk {
	t.Helper()
	d := disk.New(size)
	lay(t, d, 0, sector(1, area, end, count))
	lay(t, d, first, b)
	return d
}

// whole answers all that stands on a disk.
func whole(d *disk.Disk) string {
	var b strings.Builder
	for i := range d.Size() {
		b.WriteString(tell(d, i))
	}
	return b.String()
}

// image answers what stands on a disk of so many sectors with these parts, each
// from its sector on.
func image(size int, parts map[int][]byte) string {
	b := make([]byte, size*64)
	for first, p := range parts {
		copy(b[first*64:], p)
	}
	return string(b)
}

func wantErr(t *testing.T, what string, got, want api.Errno) {
	t.Helper()
	if got != want {
		t.Errorf("%s: %d, want %d", what, got, want)
	}
}

// holds answers whether Get, Under and Count tell just these pairs.
func holds(s *store.Store, want map[string]string) bool {
	if s.Count() != len(want) || !slices.Equal(s.Under(""), under(want, "")) {
		return false
	}
	for k, v := range want {
		if got, ok := s.Get(k); !ok || got != v {
			return false
		}
	}
	return true
}

func wantPairs(t *testing.T, what string, s *store.Store, want map[string]string) {
	t.Helper()
	if !holds(s, want) {
		t.Fatalf("%s: %d pairs %+v, want %q", what, s.Count(), s.Under(""), want)
	}
}

func open(t *testing.T, d *disk.Disk) *store.Store {
	t.Helper()
	s, e := store.Open(d)
	if e != api.OK || s == nil {
		t.Fatalf("Open: %v, %d", s, e)
	}
	return s
}

// wantOpenErr also holds Open to its zero value beside an error, and to a disk
// that stays as it was.
func wantOpenErr(t *testing.T, what string, d *disk.Disk, want api.Errno) {
	t.Helper()
	before := whole(d)
	if s, e := store.Open(d); e != want || s != nil {
		t.Errorf("%s: %v, %d, want %d", what, s, e, want)
	}
	if whole(d) != before {
		t.Errorf("%s: the disk was changed", what)
	}
}

// commit holds a Commit to OK.
func commit(t *testing.T, s *store.Store, l ...store.Change) {
	t.Helper()
	if e := s.Commit(l); e != api.OK {
		t.Fatalf("Commit(%+v): %d", l, e)
	}
}

// P6.1: a disk has 4 sectors at least, and that is said ahead of that it is
// down.
func TestOpenSize(t *testing.T) {
	for _, size := range []int{-1, 0, 1, 2, 3} {
		d := disk.New(size)
		wantOpenErr(t, "too few", d, api.ErrArg)
		d.Arm(0)
		if s, e := store.Open(d); e != api.ErrArg || s != nil {
			t.Errorf("too few, and down: %v, %d", s, e)
		}
	}
	for _, size := range []int{4, 5, 6, 7, 64, api.MaxSectors} {
		d := disk.New(size)
		d.Arm(1)
		wantPairs(t, "new", open(t, d), nil)
		if d.Down() || d.Waits() != 0 {
			t.Error("Open changed the disk")
		}
		d.Arm(0)
		if s, e := store.Open(d); e != api.ErrDown || s != nil {
			t.Errorf("down: %v, %d", s, e)
		}
	}
}

// P6.1: the cell's area is 0 or 1.
func TestOpenArea(t *testing.T) {
	b := frame(batch(put("a", "1")))
	n := int64(len(b))
	wantPairs(t, "area 0", open(t, laid(t, 6, 0, n, 1, 2, b)), has{"a": "1"})
	wantPairs(t, "area 1", open(t, laid(t, 6, 1, n, 1, 4, b)), has{"a": "1"})
	wantPairs(t, "area 1 of an odd size", open(t, laid(t, 7, 1, n, 1, 4, b)), has{"a": "1"})
	wantOpenErr(t, "the frame is in the other area", laid(t, 6, 1, n, 1, 2, b), api.ErrSpoilt)
	for _, area := range []int64{-1, 2, 3, 1 << 32, 1<<32 + 1, math.MinInt64, math.MaxInt64} {
		wantOpenErr(t, "no area", laid(t, 6, area, n, 1, 2, b), api.ErrSpoilt)
		wantOpenErr(t, "no area, no frames", laid(t, 6, area, 0, 0, 2, b), api.ErrSpoilt)
	}
}

// P6.1: of the cell's two sectors the one of the greater turn holds; with none
// that is whole there is nothing, whatever stands in the areas.
func TestOpenTurn(t *testing.T) {
	one, two := frame(batch(put("a", "1"))), frame(batch(put("b", "2")))
	n := int64(len(one))
	d := laid(t, 8, 0, n, 1, 2, one)
	lay(t, d, 1, sector(2, 1, n, 1))
	lay(t, d, 5, two)
	wantPairs(t, "turn 2", open(t, d), has{"b": "2"})
	lay(t, d, 0, sector(3, 0, n, 1))
	wantPairs(t, "turn 3", open(t, d), has{"a": "1"})
	lay(t, d, 0, sector(3, 0, n, 1)[:63])
	wantPairs(t, "turn 3 is torn", open(t, d), has{"b": "2"})
	lay(t, d, 1, []byte("torn, too"))
	wantPairs(t, "none is whole", open(t, d), nil)
	lay(t, d, 0, sector(0, 1, n, 1))
	wantPairs(t, "turn 0", open(t, d), nil)
}

// P6.1 and P6.4: a sector of the cell that is torn is noughts behind Open, and
// lasting; a disk of which nothing is torn, or that is refused, stays as it is.
func TestOpenMendsCell(t *testing.T) {
	b := frame(batch(put("a", "1")))
	n := int64(len(b))
	for torn := range 65 {
		d := laid(t, 8, 0, n, 1, 2, b)
		next := sector(2, 0, n, 1)
		lay(t, d, 1, append(next[:torn:torn], sector(0, 1, 7, 7)[torn:]...))
		before := whole(d)
		halves := tell(d, 1)
		wantPairs(t, "a cell that is torn", open(t, d), has{"a": "1"})
		want := before
		if halves[:32] != halves[32:] {
			want = before[:64] + string(make([]byte, 64)) + before[128:]
		}
		d.Crash(0, 0)
		if whole(d) != want {
			t.Errorf("torn at %d: %x, want %x", torn, whole(d), want)
		}
		d.Arm(1)
		wantPairs(t, "once more", open(t, d), has{"a": "1"})
		if d.Down() {
			t.Error("what is mended was mended again")
		}
	}
	d := laid(t, 8, 0, n, 2, 2, b)
	lay(t, d, 1, sector(2, 0, n, 1)[:40])
	wantOpenErr(t, "torn, and spoilt", d, api.ErrSpoilt)
}

// P6.1 and P6.4: a disk that goes down within Open has been read by then: there
// is a store, which can't commit till it is opened anew.
func TestOpenCutOff(t *testing.T) {
	b := frame(batch(put("a", "1")))
	for torn := range 65 {
		d := laid(t, 8, 0, int64(len(b)), 1, 2, b)
		lay(t, d, 1, sector(2, 1, 7, 7)[:50])
		d.Arm(1)
		s := open(t, d)
		if !d.Down() {
			t.Error("the disk is up")
		}
		wantPairs(t, "cut off", s, has{"a": "1"})
		if torn%2 == 0 {
			wantErr(t, "cut off", s.Commit(nil), api.ErrDown)
		}
		d.Crash(0, torn)
		before := whole(d)
		wantErr(t, "up again", s.Commit([]store.Change{put("b", "2")}), api.ErrDown)
		if whole(d) != before {
			t.Error("up again: the disk was changed")
		}
		wantPairs(t, "up again", s, has{"a": "1"})
		s = open(t, d)
		commit(t, s, put("b", "2"))
		wantPairs(t, "opened anew", open(t, d), has{"a": "1", "b": "2"})
	}
	d := laid(t, 8, 0, int64(len(b)), 1, 2, b)
	lay(t, d, 1, sector(2, 1, 7, 7)[:50])
	d.Arm(7)
	commit(t, open(t, d), gone("b"))
	d.Crash(0, 0)
	wantPairs(t, "mended, and committed", open(t, d), has{"a": "1"})
}

// P6.1: the journal's error: what isn't just so many frames in so many bytes is
// spoilt.
func TestOpenJournal(t *testing.T) {
	b := append(frame(batch(put("a", "1"))), frame(batch(put("b", "2")))...)
	n := int64(len(b))
	wantPairs(t, "as it is", open(t, laid(t, 8, 0, n, 2, 2, b)), has{"a": "1", "b": "2"})
	wantPairs(t, "the first one", open(t, laid(t, 8, 0, n/2, 1, 2, b)), has{"a": "1"})
	for _, end := range []int64{-1, 1, n/2 - 1, n/2 + 1, n - 1, n + 1, 192, 193, math.MinInt64, math.MaxInt64} {
		for count := range int64(4) {
			wantOpenErr(t, "end", laid(t, 8, 0, end, count, 2, b), api.ErrSpoilt)
		}
	}
	for _, count := range []int64{-1, 0, 1, 3, math.MinInt64, math.MaxInt64} {
		wantOpenErr(t, "count", laid(t, 8, 0, n, count, 2, b), api.ErrSpoilt)
	}
	for i := range b {
		x := bytes.Clone(b)
		x[i] ^= 1
		wantOpenErr(t, "a bit turned", laid(t, 8, 0, n, 2, 2, x), api.ErrSpoilt)
	}
}

// noBatches are bytes that aren't just those of a batch.
func noBatches() map[string][]byte {
	one := batch(put("k", "v"))
	two := append(number(2), one[8:]...)
	joined := func(parts ...[]byte) []byte { return bytes.Join(parts, nil) }
	return map[string][]byte{
		"none":                       {},
		"half a number":              {0, 0, 0, 0},
		"a number below 0":           number(-1),
		"a number without changes":   number(1),
		"as great as can be":         number(math.MaxInt64),
		"a byte behind":              append(bytes.Clone(one), 0),
		"a byte behind none":         append(number(0), 0),
		"two batches":                joined(one, one),
		"a change too few":           two,
		"a change too many":          joined(number(0), one[8:]),
		"a key below 0":              joined(number(1, -1), []byte{1}, number(0)),
		"a key too long":             joined(number(1, 2), []byte{'k', 1}),
		"a value below 0":            joined(number(1), text("k"), []byte{0}, number(-1)),
		"a value too long":           joined(number(1), text("k"), []byte{0}, number(2), []byte("v")),
		"a truth of 2":               joined(number(1), text("k"), []byte{2}, text("v")),
		"a truth of 255":             joined(number(1), text("k"), []byte{255}),
		"a value of what is gone":    joined(number(1), text("k"), []byte{1}, text("v")),
		"no value":                   joined(number(1), text("k"), []byte{0}),
		"no truth":                   joined(number(1), text("k")),
		"the last byte isn't there":  one[:len(one)-1],
		"of two the last one is cut": joined(two, text("l"), []byte{0}, number(1)),
	}
}

// P6.1: a frame that isn't just a batch's bytes spoils all, wherever it stands
// among others.
func TestOpenNoBatch(t *testing.T) {
	good := frame(batch(put("a", "1")))
	for what, b := range noBatches() {
		f := frame(b)
		wantOpenErr(t, what, laid(t, 12, 0, int64(len(f)), 1, 2, f), api.ErrSpoilt)
		for _, l := range [][]byte{append(f, good...), append(bytes.Clone(good), f...)} {
			wantOpenErr(t, what+", beside another", laid(t, 12, 1, int64(len(l)), 2, 7, l), api.ErrSpoilt)
		}
	}
}

// P6.1: batches of every shape are read, one behind the other, each change in
// its order.
func TestOpenBatches(t *testing.T) {
	for _, c := range []struct {
		want    has
		batches [][]byte
	}{
		{has{}, nil},
		{has{}, [][]byte{batch()}},
		{has{}, [][]byte{batch(), batch(gone("a")), batch()}},
		{has{"": ""}, [][]byte{batch(put("", ""))}},
		{has{}, [][]byte{batch(gone(""), gone(""), gone(""))}},
		{has{"": "x"}, [][]byte{batch(put("", "")), batch(put("", "x"))}},
		{has{"a": "2"}, [][]byte{batch(put("a", "1"), put("a", "2"))}},
		{has{}, [][]byte{batch(put("a", "1"), gone("a"))}},
		{has{"a": "1"}, [][]byte{batch(gone("a"), put("a", "1"))}},
		{has{"a": "1", "b": "3"}, [][]byte{batch(put("b", "2"), put("a", "1")), batch(gone("b")), batch(put("b", "3"))}},
		{has{"b": "2", "d": "4"}, [][]byte{batch(put("d", "4"), put("c", "3"), put("b", "2"), put("a", "1")), batch(gone("c"), gone("a"))}},
	} {
		var b []byte
		for _, x := range c.batches {
			b = append(b, frame(x)...)
		}
		d := laid(t, 20, 1, int64(len(b)), int64(len(c.batches)), 11, b)
		wantPairs(t, "batches", open(t, d), c.want)
	}
}

// keys are such as lie next to one another, byte by byte.
func keys() []string {
	return []string{
		"", "\x00", "\x00\x00", "A", "a", "a\x00", "a\x00b", "aa", "ab", "ab\xff", "ac", "a\xfe", "a\xff", "a\xffz", "a\xff\xff",
		"b", "ba", "z", "\x7f", "\x80", "\xc3\xa4", "\xff", "\xff\x00", "\xff\xff", "\xff\xffx",
	}
}

// P6.2: Get tells what is there and that nothing is; Under tells all that begin
// with a prefix and no others, by rising keys.
func TestGetUnderCount(t *testing.T) {
	for skip := range 4 {
		s := open(t, disk.New(200))
		want := has{}
		for i, k := range keys() {
			if i%4 == skip {
				continue
			}
			want[k] = fmt.Sprint("value ", i)
			commit(t, s, put(k, want[k]))
			wantPairs(t, "one more", s, want)
		}
		for _, k := range append(keys(), "aaa", "ab\xfe", "c", "\xfe", "\xff\xff\xff") {
			v, ok := want[k]
			if got, found := s.Get(k); got != v || found != ok {
				t.Errorf("Get(%q): %q, %v", k, got, found)
			}
			if got := s.Under(k); !slices.Equal(got, under(want, k)) {
				t.Errorf("Under(%q): %+v, want %+v", k, got, under(want, k))
			}
		}
	}
}

// P6.2: an empty value is a value; of what is gone nothing is left.
func TestGetEmptyAndGone(t *testing.T) {
	s := open(t, disk.New(50))
	if v, ok := s.Get(""); v != "" || ok || len(s.Under("")) != 0 || s.Count() != 0 {
		t.Error("a new store has something")
	}
	commit(t, s, put("a", ""), put("b", "2"))
	if v, ok := s.Get("a"); v != "" || !ok {
		t.Error("an empty value isn't there")
	}
	commit(t, s, store.Change{Key: "b", Value: "not looked at", Gone: true}, gone("c"))
	wantPairs(t, "b is gone", s, has{"a": ""})
	if v, ok := s.Get("b"); v != "" || ok {
		t.Errorf("gone: %q, %v", v, ok)
	}
	commit(t, s, gone("a"))
	wantPairs(t, "all gone", s, nil)
}

// P6.3: changes are done in their order, and a batch is there behind a Commit
// as it is when the store is opened anew.
func TestCommitInOrder(t *testing.T) {
	d := disk.New(400)
	s := open(t, d)
	want := map[string]string{}
	for _, l := range [][]store.Change{
		nil,
		{},
		{put("a", "1"), put("b", "2")},
		{gone("a")},
		{put("a", "1"), put("a", "2"), put("c", "3"), put("a", "4")},
		{gone("a"), put("a", "5"), put("b", "6"), gone("b")},
		{gone("x"), gone("x"), put("", ""), put("x", "7"), gone("c"), put("c", "8")},
		{put("z", "1"), put("y", "1"), put("x", "1"), put("w", "1"), put("z", "2"), gone("y")},
		{gone("z"), gone("y"), gone("x"), gone("w"), gone("")},
	} {
		commit(t, s, l...)
		want = changed(want, l)
		wantPairs(t, "behind a Commit", s, want)
		wantPairs(t, "opened anew", open(t, d), want)
	}
}

// P6.3: a batch's bytes are appended, and the cell is set, to the byte; where
// there is no room, the snapshot begins the other area, and the old one stays
// as it is.
func TestCommitBytes(t *testing.T) {
	d := disk.New(7)
	s := open(t, d)
	// The value of what is gone isn't told.
	one := frame(batch(put("b", "2"), put("a", "1"), gone("c")))
	commit(t, s, put("b", "2"), put("a", "1"), store.Change{Key: "c", Value: "x", Gone: true})
	n := int64(len(one))
	parts := map[int][]byte{0: sector(1, 0, n, 1), 2: one}
	if got, want := whole(d), image(7, parts); got != want {
		t.Fatalf("appended: %x, want %x", got, want)
	}
	two := append(one, frame(batch())...)
	commit(t, s)
	parts[1], parts[2] = sector(2, 0, n+24, 2), two
	if got, want := whole(d), image(7, parts); got != want {
		t.Fatalf("appended, no changes: %x, want %x", got, want)
	}
	snapshot := frame(batch(put("a", "1"), put("bb", "3")))
	commit(t, s, gone("b"), put("bb", "3"))
	parts[0], parts[4] = sector(3, 1, int64(len(snapshot)), 1), snapshot
	if got, want := whole(d), image(7, parts); got != want {
		t.Fatalf("the other area: %x, want %x", got, want)
	}
	commit(t, s, gone("a"))
	again := append(snapshot, frame(batch(gone("a")))...)
	parts[1], parts[4] = sector(4, 1, int64(len(again)), 2), again
	if got, want := whole(d), image(7, parts); got != want {
		t.Fatalf("goes on there: %x, want %x", got, want)
	}
	// Behind the snapshot its last sector has noughts; the next one stays.
	last := frame(batch(put("bb", "3")))
	commit(t, s, gone("cc"))
	parts[0], parts[2], parts[3] = sector(5, 0, int64(len(last)), 1), append(last, make([]byte, 64-len(last))...), two[64:]
	if got, want := whole(d), image(7, parts); got != want {
		t.Fatalf("back again: %x, want %x", got, want)
	}
	wantPairs(t, "back again", open(t, d), has{"bb": "3"})
}

// P6.3: a batch that fits just so is appended, one that has a byte more begins
// the other area; a snapshot that fits just so is kept, one of a byte more is
// refused, and then the store has what it had, and goes on.
func TestCommitFull(t *testing.T) {
	for half := 1; half <= 4; half++ {
		for odd := range 2 {
			room := half * 64
			size := 2 + 2*half + odd
			empty := len(frame(batch(put("k", ""))))
			d := disk.New(size)
			s := open(t, d)
			if room < empty {
				t.Fatal("the test's key is too long")
			}
			most := strings.Repeat("m", room-empty)
			before := whole(d)
			wantErr(t, "a byte too many", s.Commit([]store.Change{put("k", most+"m")}), api.ErrFull)
			wantPairs(t, "full", s, nil)
			if whole(d) != before {
				t.Error("full: the disk was changed")
			}
			commit(t, s, put("k", most))
			wantArea(t, d, 1, 0, int64(room), 1)
			commit(t, s, put("k", most))
			wantArea(t, d, 2, 1, int64(room), 1)
			before = whole(d)
			wantErr(t, "one more", s.Commit([]store.Change{put("l", "")}), api.ErrFull)
			wantErr(t, "longer", s.Commit([]store.Change{put("k", most+"m")}), api.ErrFull)
			wantPairs(t, "full", s, has{"k": most})
			if whole(d) != before || d.Waits() != 0 {
				t.Error("full: the disk was changed")
			}
			wantPairs(t, "full, opened anew", open(t, d), has{"k": most})
			commit(t, s, put("k", "short"))
			wantArea(t, d, 3, 0, int64(empty+5), 1)
			wantPairs(t, "goes on", open(t, d), has{"k": "short"})
		}
	}
}

// wantArea holds the cell's last sector to these numbers.
func wantArea(t *testing.T, d *disk.Disk, turn, area, end, count int64) {
	t.Helper()
	if got := tell(d, int(turn+1)%2); got != string(sector(turn, area, end, count)) {
		t.Fatalf("cell: %x, want turn %d: %d %d %d", got, turn, area, end, count)
	}
}

// P6.3: a batch of more than 2^20 bytes is none for a journal, though its area
// had room: the snapshot goes into the other one; one that is so long, too, is
// refused as ErrFull.
func TestCommitLong(t *testing.T) {
	const longest = 1 << 20
	d := disk.New(2 + 2*(longest/64+100))
	s := open(t, d)
	empty := len(batch(put("k", "")))
	most := strings.Repeat("m", longest-empty)
	commit(t, s, put("k", "first"))
	commit(t, s, put("k", most))
	wantArea(t, d, 2, 0, int64(len(frame(batch(put("k", "first"))))+16+longest), 2)
	wantErr(t, "a byte too long", s.Commit([]store.Change{put("k", most+"m")}), api.ErrFull)
	wantErr(t, "appended, though no snapshot could hold it", s.Commit([]store.Change{put("l", "")}), api.OK)
	s = open(t, d)
	wantPairs(t, "appended", s, has{"k": most, "l": ""})
	wantErr(t, "the snapshot is too long", s.Commit([]store.Change{put("l", strings.Repeat("l", 7000))}), api.ErrFull)
	wantPairs(t, "too long", s, has{"k": most, "l": ""})

	var l []store.Change
	for i := range 50000 {
		l = append(l, put("n", fmt.Sprint(i)), gone(fmt.Sprint("gone ", i)))
	}
	l = append(l, gone("k"))
	wantErr(t, "long, but little comes of it", s.Commit(l), api.OK)
	wantArea(t, d, 4, 1, int64(len(frame(batch(put("l", ""), put("n", "49999"))))), 1)
	wantPairs(t, "long", open(t, d), has{"l": "", "n": "49999"})
}

// P6.3: a cell without a turn left refuses: that is told as it is, no other
// area is begun, and the next Commit stands where this one would.
func TestCommitLastTurn(t *testing.T) {
	b := frame(batch(put("a", "1")))
	n := int64(len(b))
	for _, turn := range []int64{1 << 62, 1<<62 + 1, math.MaxInt64} {
		d := disk.New(8)
		at := int(turn+1) % 2
		lay(t, d, at, sector(turn, 1, n, 1))
		lay(t, d, 5, b)
		s := open(t, d)
		for _, c := range []store.Change{put("b", "2"), put("b", "33"), gone("a"), gone("a")} {
			wantErr(t, "the last turn", s.Commit([]store.Change{c}), api.ErrFull)
			wantPairs(t, "the last turn", s, has{"a": "1"})
			want := image(8, map[int][]byte{at: sector(turn, 1, n, 1), 5: append(bytes.Clone(b), frame(batch(c))...)})
			// What an earlier one left behind the last sector it touched stays.
			if got := whole(d); got[:6*64] != want[:6*64] {
				t.Fatalf("the last turn: %x, want %x", got, want)
			}
			wantPairs(t, "the last turn, opened anew", open(t, d), has{"a": "1"})
		}
	}
	d := disk.New(8)
	lay(t, d, 0, sector(1<<62-1, 1, n, 1))
	lay(t, d, 5, b)
	s := open(t, d)
	commit(t, s, put("b", "2"))
	wantErr(t, "behind the last", s.Commit(nil), api.ErrFull)
	wantPairs(t, "the last but one", open(t, d), has{"a": "1", "b": "2"})
}

// P6.3: with each number of changes that are left, the disk's error is told and
// the store has what it had; behind the cell's flush it is OK, though the disk
// is down. It takes a write of each sector and a flush, and two for the cell.
func TestCommitDown(t *testing.T) {
	first, second := put("a", strings.Repeat("1", 30)), put("b", strings.Repeat("2", 50))
	for _, c := range []struct {
		name    string
		sectors int
		changes int
		want    has
	}{
		{"appended", 40, 5, has{"a": first.Value, "b": second.Value}},
		{"the other area", 8, 6, has{"a": first.Value, "b": second.Value}},
	} {
		for armed := range c.changes + 2 {
			d := disk.New(c.sectors)
			s := open(t, d)
			commit(t, s, first)
			if c.sectors == 8 {
				commit(t, s, first)
			}
			d.Arm(armed)
			e := s.Commit([]store.Change{second})
			if d.Down() != (armed <= c.changes) {
				t.Errorf("%s, armed with %d: Down %v", c.name, armed, d.Down())
			}
			if armed >= c.changes {
				wantErr(t, c.name, e, api.OK)
				wantPairs(t, c.name, s, c.want)
			} else {
				wantErr(t, c.name, e, api.ErrDown)
				wantPairs(t, c.name, s, has{"a": first.Value})
			}
		}
	}
}

// P6.3: behind an ErrDown a store's Commits are refused till it is opened anew,
// be the disk up again or not; it writes nothing, and tells on what it has.
func TestCommitBehindDown(t *testing.T) {
	for armed := range 5 {
		for keep := range 2 {
			d := disk.New(20)
			s := open(t, d)
			commit(t, s, put("a", "1"))
			d.Arm(armed)
			wantErr(t, "down", s.Commit([]store.Change{put("b", "2")}), api.ErrDown)
			wantErr(t, "still down", s.Commit([]store.Change{put("c", "3")}), api.ErrDown)
			wantErr(t, "still down, no changes", s.Commit(nil), api.ErrDown)
			d.Crash(keep, 0)
			before := whole(d)
			wantErr(t, "up again", s.Commit([]store.Change{put("c", "3")}), api.ErrDown)
			wantErr(t, "up again, no changes", s.Commit(nil), api.ErrDown)
			e := s.Commit([]store.Change{put("c", strings.Repeat("3", 999))})
			if e != api.ErrDown && e != api.ErrFull {
				t.Errorf("up again, and full: %d", e)
			}
			if whole(d) != before || d.Waits() != 0 {
				t.Error("up again: the disk was changed")
			}
			wantPairs(t, "the old store", s, has{"a": "1"})
			x := open(t, d)
			want := map[string]string{"a": "1"}
			// Two sectors and a flush, and the cell's write, which is kept.
			if armed == 4 && keep == 1 {
				want["b"] = "2"
			}
			wantPairs(t, "opened anew", x, want)
			commit(t, x, put("c", "4"))
			want["c"] = "4"
			wantPairs(t, "goes on", open(t, d), want)
			wantPairs(t, "the old store", s, has{"a": "1"})
		}
	}
}

// P6.3: a store that was told OK goes on when the power went and came: it was
// never refused.
func TestCommitBehindOK(t *testing.T) {
	d := disk.New(20)
	s := open(t, d)
	d.Arm(4)
	commit(t, s, put("a", "1"))
	if !d.Down() {
		t.Error("the disk is up")
	}
	d.Crash(0, 0)
	commit(t, s, put("b", "2"))
	wantPairs(t, "goes on", open(t, d), has{"a": "1", "b": "2"})
}

// P6.3: what has no room is told ahead of that the disk is down, as a journal
// tells it; what has room in the other area alone finds it down.
func TestCommitFullAndDown(t *testing.T) {
	d := disk.New(6)
	s := open(t, d)
	big := put("b", strings.Repeat("b", 150))
	commit(t, s, put("a", "1"))
	commit(t, s, put("a", "2"))
	d.Arm(0)
	wantErr(t, "full, and down", s.Commit([]store.Change{big}), api.ErrFull)
	d.Crash(0, 0)
	commit(t, s, put("a", "3"))
	wantPairs(t, "not refused as down", open(t, d), has{"a": "3"})
	d.Arm(0)
	for range 2 {
		wantErr(t, "full, and down", s.Commit([]store.Change{big}), api.ErrFull)
		wantErr(t, "down", s.Commit([]store.Change{put("a", strings.Repeat("4", 60))}), api.ErrDown)
	}
	wantPairs(t, "down", s, has{"a": "3"})
}

// P6.3: what others wrote meanwhile is what a Commit reads: ahead of its frame
// that stays. The store tells on what it had.
func TestCommitBesideOthers(t *testing.T) {
	d := disk.New(20)
	s := open(t, d)
	commit(t, s, put("a", "1"))
	others := frame(batch(put("z", "9")))
	lay(t, d, 2, others)
	wantPairs(t, "others wrote", s, has{"a": "1"})
	commit(t, s, put("b", "2"))
	wantPairs(t, "beside others", s, has{"a": "1", "b": "2"})
	wantPairs(t, "beside others, opened anew", open(t, d), has{"z": "9", "b": "2"})

	wantErr(t, "Write", d.Write(2, bytes.Repeat([]byte{7}, 64)), api.OK)
	commit(t, s, put("c", "3"))
	wantErr(t, "spoilt ahead of it", s.Commit([]store.Change{put("d", "4")}), api.OK)
	wantPairs(t, "spoilt ahead of it", s, has{"a": "1", "b": "2", "c": "3", "d": "4"})
	wantOpenErr(t, "spoilt ahead of it", d, api.ErrSpoilt)
}

// ahead is a store's disk and a Commit that is cut off on it.
type ahead struct {
	name   string
	disk   *disk.Disk
	had    map[string]string
	change []store.Change
}

// aheads are Commits that append and such that begin the other area, each at
// some turns, in areas with and without old frames.
func aheads(t *testing.T) []ahead {
	t.Helper()
	var l []ahead
	for _, size := range []int{4, 5, 6, 8, 9, 12, 16} {
		d := disk.New(size)
		had := map[string]string{}
		for turn := range 9 {
			change := []store.Change{put("t", fmt.Sprint(turn))}
			if size > 6 {
				change = append(change, put(fmt.Sprint("k", turn%3), strings.Repeat("v", turn*5%17)), gone(fmt.Sprint("k", (turn+1)%3)))
			}
			l = append(l, ahead{fmt.Sprintf("%d sectors, turn %d", size, turn), d.Clone(), maps.Clone(had), change})
			commit(t, open(t, d), change...)
			had = changed(had, change)
		}
	}
	return l
}

// crashes cuts a Commit off at every change, with every keep, and torn at every
// step, and hands each disk that comes of it to check.
func crashes(t *testing.T, a ahead, step int, check func(x *disk.Disk, done bool)) {
	t.Helper()
	for armed := 0; ; armed++ {
		cut := a.disk.Clone()
		s := open(t, cut)
		cut.Arm(armed)
		done := s.Commit(a.change) == api.OK
		if !cut.Down() {
			return
		}
		for keep := -1; keep <= cut.Waits(); keep++ {
			for torn := 0; torn <= api.SectorSize; torn += step {
				x := cut.Clone()
				x.Crash(keep, torn)
				check(x, done)
			}
		}
	}
}

// P6.4: whichever change of a Commit the power goes at, and whatever the disk
// keeps, the store that is opened anew has what it had, or the whole batch; it
// has the batch, if the Commit was OK; and it goes on.
func TestCommitAllOrNothing(t *testing.T) {
	for _, a := range aheads(t) {
		old, whole := 0, 0
		behind := changed(a.had, a.change)
		crashes(t, a, 1, func(x *disk.Disk, done bool) {
			s := open(t, x)
			switch {
			case holds(s, behind):
				whole++
			case !done && holds(s, a.had):
				old++
			default:
				t.Fatalf("%s, done %v: %+v", a.name, done, s.Under(""))
			}
			commit(t, s, put("t", "on"))
			wantPairs(t, a.name, open(t, x), pairsOf(s))
		})
		if old == 0 || whole == 0 {
			t.Errorf("%s: %d with what it had, %d with the batch", a.name, old, whole)
		}
	}
}

// pairsOf answers what a store has as a map.
func pairsOf(s *store.Store) map[string]string {
	m := map[string]string{}
	for _, c := range s.Under("") {
		m[c.Key] = c.Value
	}
	return m
}

// P6.4: a crash behind a crash: the same Commit told again, as often as it
// takes, is there in the end, and nothing else is on the way.
func TestCommitBehindCrash(t *testing.T) {
	for _, a := range aheads(t) {
		behind := changed(a.had, a.change)
		crashes(t, a, 32, func(x *disk.Disk, done bool) {
			had := pairsOf(open(t, x))
			again := ahead{a.name, x, had, a.change}
			crashes(t, again, 32, func(y *disk.Disk, done bool) {
				s := open(t, y)
				if !holds(s, behind) && (done || !holds(s, had)) {
					t.Fatalf("%s, done %v: %+v", a.name, done, s.Under(""))
				}
				commit(t, s, a.change...)
				wantPairs(t, a.name, open(t, y), behind)
			})
		})
	}
}

// P6.4: a cell's sector that was torn twice has never halves that nobody wrote.
// Here the sizes are such that the first torn Commit leaves the end and count of
// two turns ago beside its own, and the second one their area.
func TestCommitTornTwice(t *testing.T) {
	base := disk.New(8)
	s := open(t, base)
	value := func(n int) store.Change { return put("k", strings.Repeat("v", n)) }
	for _, n := range []int{10, 50, 10} {
		commit(t, s, value(n))
	}
	wantArea(t, base, 2, 0, 144, 2)
	wantArea(t, base, 3, 1, 52, 1)
	had := has{"k": value(10).Value}
	first := ahead{"the first", base, had, []store.Change{value(50)}}
	crashes(t, first, 4, func(x *disk.Disk, done bool) {
		had := pairsOf(open(t, x))
		second := ahead{"the second", x, had, []store.Change{value(100)}}
		crashes(t, second, 4, func(y *disk.Disk, done bool) {
			s := open(t, y)
			if !holds(s, has{"k": value(100).Value}) && (done || !holds(s, had)) {
				t.Fatalf("done %v: %+v", done, s.Under(""))
			}
		})
	})
}

// P6.5: what is handed in stays, its spare room, too, and isn't kept.
func TestHandedInStays(t *testing.T) {
	room := []store.Change{put("c", "3"), put("a", "1"), put("c", "4"), gone("x"), put("b", "2"), put("spare", "room")}
	kept := slices.Clone(room)
	d := disk.New(6)
	s := open(t, d)
	for range 3 {
		commit(t, s, room[:2]...)
	}
	commit(t, s, room[:5]...)
	if !slices.Equal(room, kept) {
		t.Errorf("behind Commit: %+v", room)
	}
	for i := range room {
		room[i] = put("changed", "since")
	}
	wantPairs(t, "changed since", s, has{"a": "1", "b": "2", "c": "4"})
	wantPairs(t, "opened anew", open(t, d), has{"a": "1", "b": "2", "c": "4"})
	commit(t, s, gone("b"))
	wantPairs(t, "changed since", s, has{"a": "1", "c": "4"})
}

// P6.5: what Under told is the caller's: to write to it, or behind it, changes
// neither the store nor another answer; and no Commit changes it.
func TestToldIsNewMemory(t *testing.T) {
	s := open(t, disk.New(60))
	want := has{"a1": "1", "a2": "2", "a3": "3", "b": "4"}
	commit(t, s, under(want, "")...)
	before := s.Under("")
	for _, prefix := range []string{"", "a", "a2", "b", "c"} {
		told, other := s.Under(prefix), s.Under(prefix)
		_ = append(told, put("behind", "it"))
		for i := range told[:cap(told)] {
			told[:cap(told)][i] = put("over", "it")
		}
		if !slices.Equal(other, under(want, prefix)) {
			t.Errorf("another answer: %+v", other)
		}
		wantPairs(t, "written to", s, want)
	}
	commit(t, s, gone("a1"), put("a2", "5"), put("a", "6"))
	if !slices.Equal(before, under(want, "")) {
		t.Errorf("an earlier answer: %+v", before)
	}
}

// Two stores of one disk's clones don't meet.
func TestStoresApart(t *testing.T) {
	d := disk.New(12)
	s := open(t, d)
	commit(t, s, put("a", "1"), put("b", "2"))
	x := d.Clone()
	y := open(t, x)
	commit(t, y, gone("a"))
	commit(t, s, put("b", "3"))
	wantPairs(t, "the one", s, has{"a": "1", "b": "3"})
	wantPairs(t, "the other", y, has{"b": "2"})
	wantPairs(t, "the other's disk", open(t, x), has{"b": "2"})
}

// The chapter's examples.
func TestExamples(t *testing.T) {
	s := open(t, disk.New(30))
	commit(t, s, put("a", "1"), put("b", "2"))
	commit(t, s, gone("a"))
	wantPairs(t, "a is gone", s, has{"b": "2"})

	d := disk.New(6)
	s = open(t, d)
	for i := range 1000 {
		v := fmt.Sprintf("%019d", i)
		commit(t, s, put("k", v))
		if i%2 == 0 {
			s = open(t, d)
		}
		wantPairs(t, "on and on", s, has{"k": v})
	}
}
