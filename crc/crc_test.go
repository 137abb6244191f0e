package crc_test

import (
	"bytes"
	"hash/crc32"
	"math"
	"slices"
	"testing"

	"pavane/crc"
)

// next is a small generator of numbers, the same in each run.
func next(x *uint64) uint32 {
	*x = *x*6364136223846793005 + 1442695040888963407
	return uint32(*x >> 32)
}

// text answers n bytes from the generator.
func text(x *uint64, n int) []byte {
	b := make([]byte, n)
	for i := range b {
		b[i] = byte(next(x))
	}
	return b
}

func wantSum(t *testing.T, what string, got, want uint32) {
	t.Helper()
	if got != want {
		t.Errorf("%s: %08x, want %08x", what, got, want)
	}
}

// stepOf is the chapter's step, bit by bit on a list of 32 truths, the lowest
// one first.
func stepOf(c uint32, b byte) uint32 {
	var bits [33]bool
	for i := range 32 {
		bits[i] = c>>i&1 == 1
		if i < 8 {
			bits[i] = bits[i] != (b>>i&1 == 1)
		}
	}
	for range 8 {
		low := bits[0]
		for i := range 32 {
			bits[i] = bits[i+1] != (low && uint32(0xedb88320)>>i&1 == 1)
		}
	}
	var out uint32
	for i := range 32 {
		if bits[i] {
			out |= 1 << i
		}
	}
	return out
}

// P2.1: Step is the chapter's step: each byte with sums at the edges and with
// sums of one bit.
func TestStep(t *testing.T) {
	sums := []uint32{0, 1, 255, 256, 0x7fffffff, 0x80000000, 0xedb88320, math.MaxUint32}
	for i := range 32 {
		sums = append(sums, 1<<i)
	}
	x := uint64(1)
	for range 100 {
		sums = append(sums, next(&x))
	}
	for _, c := range sums {
		for b := range 256 {
			got := crc.Step(c, byte(b))
			wantSum(t, "the chapter's words", got, stepOf(c, byte(b)))
			wantSum(t, "the library", got, ^crc32.Update(^c, crc32.IEEETable, []byte{byte(b)}))
		}
	}
	wantSum(t, "a step of nothing", crc.Step(0, 0), 0)
	wantSum(t, "a step with 1", crc.Step(0, 1), 0x77073096)
	wantSum(t, "a step with 128", crc.Step(0, 128), 0xedb88320)
}

// P2.1: sums that are known.
func TestSumKnown(t *testing.T) {
	cases := []struct {
		text string
		sum  uint32
	}{
		{"", 0},
		{"\x00", 0xd202ef8d},
		{"\xff", 0xff000000},
		{"a", 0xe8b7be43},
		{"123456789", 0xcbf43926},
		{"\x00\x00\x00\x00", 0x2144df1c},
		{"\xff\xff\xff\xff", 0xffffffff},
		{"The quick brown fox jumps over the lazy dog", 0x414fa339},
	}
	for _, c := range cases {
		wantSum(t, c.text, crc.Sum([]byte(c.text)), c.sum)
	}
}

// P2.1: nothing, in each of its shapes, has the sum 0.
func TestSumOfNothing(t *testing.T) {
	wantSum(t, "no part", crc.Sum(), 0)
	wantSum(t, "nil parts", crc.Sum([][]byte(nil)...), 0)
	wantSum(t, "a nil part", crc.Sum(nil), 0)
	wantSum(t, "an empty part", crc.Sum([]byte{}), 0)
	wantSum(t, "some of them", crc.Sum(nil, []byte{}, nil), 0)
}

// P2.1: the sum hangs on the bytes and their order, not on where the parts
// begin and end.
func TestSumOfParts(t *testing.T) {
	x := uint64(2)
	for n := range 40 {
		b := text(&x, n)
		want := crc32.ChecksumIEEE(b)
		wantSum(t, "whole", crc.Sum(b), want)
		for i := range n + 1 {
			wantSum(t, "two parts", crc.Sum(b[:i], b[i:]), want)
			wantSum(t, "with empty ones", crc.Sum(nil, b[:i], []byte{}, b[i:], nil), want)
		}
		wantSum(t, "byte by byte", crc.Sum(slices.Collect(slices.Chunk(b, 1))...), want)
	}
	if crc.Sum([]byte("ab"), []byte("c")) == crc.Sum([]byte("c"), []byte("ab")) {
		t.Error("the parts' order doesn't tell")
	}
}

// P2.1: long texts, against the library.
func TestSumOfLong(t *testing.T) {
	x := uint64(3)
	for _, n := range []int{1000, 4096, 70000} {
		b := text(&x, n)
		wantSum(t, "long", crc.Sum(b[:n/3], b[n/3:]), crc32.ChecksumIEEE(b))
	}
	zeros := make([]byte, 1<<17)
	wantSum(t, "zeros", crc.Sum(zeros), crc32.ChecksumIEEE(zeros))
}

// P2.1: Sum is its steps, between 32 ones and 32 ones.
func TestSumIsSteps(t *testing.T) {
	x := uint64(4)
	for n := range 100 {
		b := text(&x, n)
		c := uint32(math.MaxUint32)
		for _, v := range b {
			c = crc.Step(c, v)
		}
		wantSum(t, "steps", crc.Sum(b), ^c)
	}
}

// Rules 5 and 8: parts are read alone, without their spare room, and a sum is
// the same each time.
func TestSumChangesNothing(t *testing.T) {
	room := []byte("123456789abc")
	parts := [][]byte{room[:4], room[4:9]}
	before, beforeParts := bytes.Clone(room), slices.Clone(parts)
	for range 2 {
		wantSum(t, "parts of a room", crc.Sum(parts...), 0xcbf43926)
	}
	if !bytes.Equal(room, before) {
		t.Errorf("the bytes became %q", room)
	}
	for i := range parts {
		if !bytes.Equal(parts[i], beforeParts[i]) || cap(parts[i]) != cap(beforeParts[i]) {
			t.Errorf("the part %d was changed", i)
		}
	}
	room[0] = 'x'
	wantSum(t, "behind a change", crc.Sum(parts...), crc32.ChecksumIEEE([]byte("x23456789")))
}

// P2.2: of each two texts, the sum of one behind the other.
func TestJoin(t *testing.T) {
	wantSum(t, "the chapter's example", crc.Join(crc.Sum([]byte("1234")), crc.Sum([]byte("56789")), 5), 0xcbf43926)
	x := uint64(5)
	for n := range 60 {
		b := text(&x, n)
		for i := range n + 1 {
			wantSum(t, "two texts", crc.Join(crc.Sum(b[:i]), crc.Sum(b[i:]), n-i), crc32.ChecksumIEEE(b))
		}
	}
	for _, n := range []int{255, 256, 257, 1000, 65535, 65536, 65537} {
		a, b := text(&x, 100), text(&x, n)
		want := crc32.ChecksumIEEE(slices.Concat(a, b))
		wantSum(t, "a long one behind", crc.Join(crc.Sum(a), crc.Sum(b), n), want)
		want = crc32.ChecksumIEEE(slices.Concat(b, a))
		wantSum(t, "a long one ahead", crc.Join(crc.Sum(b), crc.Sum(a), 100), want)
	}
}

// P2.2: with nothing behind or ahead, and with n below 0, which counts as 0.
func TestJoinOfNothing(t *testing.T) {
	for _, a := range []uint32{0, 1, 7, 0xcbf43926, math.MaxUint32} {
		for _, n := range []int{0, -1, -5, math.MinInt32, math.MinInt} {
			wantSum(t, "nothing behind", crc.Join(a, 0, n), a)
		}
	}
	wantSum(t, "nothing ahead", crc.Join(0, crc.Sum([]byte("abc")), 3), crc.Sum([]byte("abc")))
}

// P2.2: n is counted up to 2^20, and what is above counts as 2^20.
func TestJoinAtItsLongest(t *testing.T) {
	const most = 1 << 20
	x := uint64(6)
	a, b := text(&x, 9), text(&x, most)
	first, whole := crc.Sum(a), crc32.ChecksumIEEE(b)
	want := crc32.ChecksumIEEE(slices.Concat(a, b))
	for _, n := range []int{most, most + 1, most + 8, 1 << 21, math.MaxInt32, math.MaxInt} {
		wantSum(t, "2^20 and above", crc.Join(first, whole, n), want)
	}
	short := b[:most-1]
	want = crc32.ChecksumIEEE(slices.Concat(a, short))
	wantSum(t, "one less", crc.Join(first, crc32.ChecksumIEEE(short), most-1), want)
}

// P2.2: it is one, whichever two of three texts are joined first.
func TestJoinOfThree(t *testing.T) {
	x := uint64(7)
	for range 200 {
		p, q, r := text(&x, int(next(&x)%30)), text(&x, int(next(&x)%30)), text(&x, int(next(&x)%30))
		left := crc.Join(crc.Join(crc.Sum(p), crc.Sum(q), len(q)), crc.Sum(r), len(r))
		right := crc.Join(crc.Sum(p), crc.Join(crc.Sum(q), crc.Sum(r), len(r)), len(q)+len(r))
		wantSum(t, "to the left", left, crc32.ChecksumIEEE(slices.Concat(p, q, r)))
		wantSum(t, "to the right", right, left)
	}
}

// P2.3: texts that differ in one place, each place and each other byte.
func TestOnePlaceTells(t *testing.T) {
	x := uint64(8)
	for _, n := range []int{1, 2, 5, 17, 64} {
		b := text(&x, n)
		sum := crc.Sum(b)
		for i := range b {
			was := b[i]
			for d := 1; d < 256; d++ {
				b[i] = was ^ byte(d)
				if crc.Sum(b) == sum {
					t.Fatalf("%d bytes: the place %d with %d for %d has the same sum", n, i, b[i], was)
				}
			}
			b[i] = was
		}
	}
}

// P2.3: texts that differ within four bytes in a row, in many ways.
func TestFourBytesTell(t *testing.T) {
	x := uint64(9)
	for range 20000 {
		b := text(&x, 4+int(next(&x)%60))
		sum := crc.Sum(b)
		at, d := int(next(&x))%(len(b)-3), next(&x)
		if next(&x)%2 == 0 {
			d &= next(&x) & next(&x)
		}
		for i := range 4 {
			b[at+i] ^= byte(d >> (8 * i))
		}
		if (crc.Sum(b) == sum) != (d == 0) {
			t.Fatalf("%d bytes: a difference of %08x at %d has the same sum", len(b), d, at)
		}
	}
}

// P2.3, all of it for a window of four bytes: what its 32 bits do to the sum
// is linear, so if the 32 changes are independent, no set of them cancels out.
func TestFourBytesAreIndependent(t *testing.T) {
	x := uint64(10)
	for _, behind := range []int{0, 1, 7, 300} {
		b := text(&x, 5+4+behind)
		sum := crc.Sum(b)
		var basis [32]uint32
		for bit := range 32 {
			b[5+bit/8] ^= 1 << (bit % 8)
			if !independent(&basis, crc.Sum(b)^sum) {
				t.Fatalf("%d bytes behind: the bit %d can be made up by those ahead of it", behind, bit)
			}
			b[5+bit/8] ^= 1 << (bit % 8)
		}
	}
}

// independent answers whether v is no exclusive or of those in the basis, and
// puts it there.
func independent(basis *[32]uint32, v uint32) bool {
	for i := 31; i >= 0; i-- {
		if v>>i&1 == 0 {
			continue
		}
		if basis[i] == 0 {
			basis[i] = v
			return true
		}
		v ^= basis[i]
	}
	return false
}

// P1, P2.1 and P2.2: whatever the bytes and the sums, as the library says.
func FuzzSum(f *testing.F) {
	f.Add([]byte("1234"), []byte("56789"))
	f.Add([]byte{}, []byte{0})
	f.Fuzz(func(t *testing.T, a, b []byte) {
		want := crc32.Update(crc32.ChecksumIEEE(a), crc32.IEEETable, b)
		wantSum(t, "Sum", crc.Sum(a, b), want)
		wantSum(t, "Join", crc.Join(crc.Sum(a), crc.Sum(b), len(b)), want)
	})
}

func BenchmarkSum(b *testing.B) {
	x := uint64(11)
	p := text(&x, 1<<16)
	b.SetBytes(int64(len(p)))
	for b.Loop() {
		crc.Sum(p)
	}
}
