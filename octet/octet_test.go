package octet_test

import (
	"bytes"
	"math"
	"strings"
	"testing"

	"pavane/octet"
)

// sound is what can be asked of a reader without reading.
type sound struct {
	left int
	bad  bool
	done bool
}

func soundOf(r *octet.Reader) sound {
	return sound{r.Left(), r.Bad(), r.Done()}
}

var spoilt = sound{left: 0, bad: true, done: false}

func wantBytes(t *testing.T, what string, got, want []byte) {
	t.Helper()
	if !bytes.Equal(got, want) {
		t.Errorf("%s: %v, want %v", what, got, want)
	}
}

func wantSound(t *testing.T, what string, r *octet.Reader, want sound) {
	t.Helper()
	if got := soundOf(r); got != want {
		t.Errorf("%s: %+v, want %+v", what, got, want)
	}
}

// wantStaysBad asks every call of a reader that is bad already.
func wantStaysBad(t *testing.T, what string, r *octet.Reader) {
	t.Helper()
	for range 2 {
		wantSound(t, what, r, spoilt)
		if n := r.Int(); n != 0 {
			t.Errorf("%s: Int of a bad one: %d", what, n)
		}
		if s := r.Text(); s != "" {
			t.Errorf("%s: Text of a bad one: %q", what, s)
		}
		if r.Bool() {
			t.Errorf("%s: Bool of a bad one", what)
		}
		for _, least := range []int{math.MinInt, -1, 0, 1, 8, math.MaxInt} {
			if n := r.Count(least); n != 0 {
				t.Errorf("%s: Count(%d) of a bad one: %d", what, least, n)
			}
		}
	}
	wantSound(t, what, r, spoilt)
}

var numbers = []struct {
	n int64
	b []byte
}{
	{0, []byte{0, 0, 0, 0, 0, 0, 0, 0}},
	{1, []byte{0, 0, 0, 0, 0, 0, 0, 1}},
	{255, []byte{0, 0, 0, 0, 0, 0, 0, 255}},
	{256, []byte{0, 0, 0, 0, 0, 0, 1, 0}},
	{258, []byte{0, 0, 0, 0, 0, 0, 1, 2}},
	{0x0102030405060708, []byte{1, 2, 3, 4, 5, 6, 7, 8}},
	{-1, []byte{255, 255, 255, 255, 255, 255, 255, 255}},
	{-2, []byte{255, 255, 255, 255, 255, 255, 255, 254}},
	{-256, []byte{255, 255, 255, 255, 255, 255, 255, 0}},
	{-0x0102030405060708, []byte{254, 253, 252, 251, 250, 249, 248, 248}},
	{math.MaxInt32, []byte{0, 0, 0, 0, 127, 255, 255, 255}},
	{math.MinInt32, []byte{255, 255, 255, 255, 128, 0, 0, 0}},
	{math.MaxInt64, []byte{127, 255, 255, 255, 255, 255, 255, 255}},
	{math.MinInt64, []byte{128, 0, 0, 0, 0, 0, 0, 0}},
}

// P1.1: a number's bytes are eight, its two's complement, the highest first.
func TestPutInt(t *testing.T) {
	for _, c := range numbers {
		wantBytes(t, "PutInt(nil)", octet.PutInt(nil, c.n), c.b)
		wantBytes(t, "PutInt(empty)", octet.PutInt([]byte{}, c.n), c.b)
		wantBytes(t, "PutInt(9 7)", octet.PutInt([]byte{9, 7}, c.n), append([]byte{9, 7}, c.b...))
	}
}

// P1.1: a text's bytes are the number of how many bytes it has, and they.
func TestPutText(t *testing.T) {
	cases := []struct {
		s string
		b []byte
	}{
		{"", []byte{0, 0, 0, 0, 0, 0, 0, 0}},
		{"ab", []byte{0, 0, 0, 0, 0, 0, 0, 2, 'a', 'b'}},
		{"hé", []byte{0, 0, 0, 0, 0, 0, 0, 3, 'h', 0xc3, 0xa9}},
		{"\x00\xff\x80", []byte{0, 0, 0, 0, 0, 0, 0, 3, 0, 255, 128}},
	}
	for _, c := range cases {
		wantBytes(t, "PutText(nil)", octet.PutText(nil, c.s), c.b)
		wantBytes(t, "PutText(empty)", octet.PutText([]byte{}, c.s), c.b)
		wantBytes(t, "PutText(9 7)", octet.PutText([]byte{9, 7}, c.s), append([]byte{9, 7}, c.b...))
	}
	long := strings.Repeat("x", 70000)
	b := octet.PutText([]byte{5}, long)
	wantBytes(t, "long", b[:9], []byte{5, 0, 0, 0, 0, 0, 1, 0x11, 0x70})
	if string(b[9:]) != long {
		t.Error("long: the bytes of the text")
	}
}

// P1.1: a truth's byte is 1 or 0.
func TestPutBool(t *testing.T) {
	wantBytes(t, "true", octet.PutBool(nil, true), []byte{1})
	wantBytes(t, "false", octet.PutBool(nil, false), []byte{0})
	wantBytes(t, "7 true", octet.PutBool([]byte{7}, true), []byte{7, 1})
	wantBytes(t, "7 false", octet.PutBool([]byte{7}, false), []byte{7, 0})
}

var puts = []struct {
	name string
	put  func(b []byte) []byte
}{
	{"PutInt", func(b []byte) []byte { return octet.PutInt(b, 0x0102030405060708) }},
	{"PutText", func(b []byte) []byte { return octet.PutText(b, "ab") }},
	{"PutText of none", func(b []byte) []byte { return octet.PutText(b, "") }},
	{"PutBool true", func(b []byte) []byte { return octet.PutBool(b, true) }},
	{"PutBool false", func(b []byte) []byte { return octet.PutBool(b, false) }},
}

// P1.1, P1.3: what is answered is new memory; what is handed in stays, and its
// spare room, too.
func TestPutIsNewMemory(t *testing.T) {
	for _, c := range puts {
		for _, used := range []int{0, 1, 3} {
			room := bytes.Repeat([]byte{77}, 64)
			got := c.put(room[:used])
			wantBytes(t, c.name+": what is handed in", room, bytes.Repeat([]byte{77}, 64))
			want := bytes.Clone(got)
			for i := range room {
				room[i] = 200
			}
			wantBytes(t, c.name+": what is answered", got, want)
			for i := range got {
				got[i] = 99
			}
			wantBytes(t, c.name+": handed in, behind a change", room, bytes.Repeat([]byte{200}, 64))
		}
	}
}

// P1.3: two answers from one beginning don't share memory.
func TestPutTwiceFromOne(t *testing.T) {
	for _, c := range puts {
		b := octet.PutInt(nil, 3)
		first := c.put(b)
		want := bytes.Clone(first)
		octet.PutInt(b, -1)
		octet.PutText(b, "zzzz")
		octet.PutBool(b, true)
		wantBytes(t, c.name+": the first answer", first, want)
		wantBytes(t, c.name+": the beginning", b, octet.PutInt(nil, 3))
	}
}

// P1.2: what is put is read again, and the reader goes on behind it.
func TestReadWhatIsPut(t *testing.T) {
	var b []byte
	for _, c := range numbers {
		b = octet.PutInt(b, c.n)
	}
	b = octet.PutText(octet.PutText(octet.PutText(b, "hé"), ""), "\xff\x00")
	b = octet.PutBool(octet.PutBool(b, true), false)
	b = octet.PutInt(b, 0)
	r := octet.Read(b)
	left := len(b)
	wantSound(t, "at its beginning", r, sound{left, false, false})
	for _, c := range numbers {
		if n := r.Int(); n != c.n {
			t.Errorf("Int: %d, want %d", n, c.n)
		}
		left -= 8
		wantSound(t, "Int", r, sound{left, false, false})
	}
	for _, s := range []string{"hé", "", "\xff\x00"} {
		if got := r.Text(); got != s {
			t.Errorf("Text: %q, want %q", got, s)
		}
		left -= 8 + len(s)
		wantSound(t, "Text", r, sound{left, false, false})
	}
	for _, x := range []bool{true, false} {
		if got := r.Bool(); got != x {
			t.Errorf("Bool: %v, want %v", got, x)
		}
		left--
		wantSound(t, "Bool", r, sound{left, false, false})
	}
	if n := r.Count(1); n != 0 {
		t.Errorf("Count: %d", n)
	}
	wantSound(t, "at its end", r, sound{0, false, true})
	if r.Int() != 0 {
		t.Error("Int at the end")
	}
	wantStaysBad(t, "past its end", r)
}

// P1.2: a reader of no bytes is done; whatever it is asked for makes it bad.
func TestReadOfNone(t *testing.T) {
	asks := map[string]func(r *octet.Reader) bool{
		"Int":   func(r *octet.Reader) bool { return r.Int() == 0 },
		"Text":  func(r *octet.Reader) bool { return r.Text() == "" },
		"Bool":  func(r *octet.Reader) bool { return !r.Bool() },
		"Count": func(r *octet.Reader) bool { return r.Count(1) == 0 },
	}
	for name, zero := range asks {
		for _, b := range [][]byte{nil, {}} {
			r := octet.Read(b)
			wantSound(t, "none", r, sound{0, false, true})
			if !zero(r) {
				t.Errorf("%s of none isn't zero", name)
			}
			wantStaysBad(t, name+" of none", r)
		}
	}
}

// P1.2: too few bytes for a number, of each shortness.
func TestTooFewBytes(t *testing.T) {
	whole := bytes.Repeat([]byte{1}, 8)
	for k := range 8 {
		r := octet.Read(whole[:k])
		if n := r.Int(); n != 0 {
			t.Errorf("Int of %d bytes: %d", k, n)
		}
		wantStaysBad(t, "Int", r)
		r = octet.Read(whole[:k])
		if s := r.Text(); s != "" {
			t.Errorf("Text of %d bytes: %q", k, s)
		}
		wantStaysBad(t, "Text", r)
		r = octet.Read(whole[:k])
		if n := r.Count(1); n != 0 {
			t.Errorf("Count of %d bytes: %d", k, n)
		}
		wantStaysBad(t, "Count", r)
	}
	r := octet.Read(octet.PutText(nil, "ab")[:7])
	if s := r.Text(); s != "" {
		t.Errorf("the chapter's example: %q", s)
	}
	wantStaysBad(t, "the chapter's example", r)
}

// P1.2: a text's number below 0, or above what is left behind it.
func TestTextsNumber(t *testing.T) {
	behind := []byte("abc")
	cases := []struct {
		n    int64
		want string
		ok   bool
	}{
		{0, "", true},
		{1, "a", true},
		{3, "abc", true},
		{4, "", false},
		{11, "", false},
		{-1, "", false},
		{math.MinInt64, "", false},
		{math.MinInt64 + 3, "", false},
		{math.MaxInt64, "", false},
		{math.MaxInt64 - 8, "", false},
		{1<<32 + 1, "", false},
	}
	for _, c := range cases {
		r := octet.Read(append(octet.PutInt(nil, c.n), behind...))
		if s := r.Text(); s != c.want {
			t.Errorf("number %d: %q, want %q", c.n, s, c.want)
		}
		if !c.ok {
			wantStaysBad(t, "a text's number", r)
			continue
		}
		wantSound(t, "a text's number", r, sound{3 - len(c.want), false, len(c.want) == 3})
	}
}

// P1.2: a truth's byte above 1, each of them.
func TestTruthsByte(t *testing.T) {
	for c := range 256 {
		r := octet.Read([]byte{byte(c), 1, 1, 1, 1, 1, 1, 1, 1})
		if x := r.Bool(); x != (c == 1) {
			t.Errorf("the byte %d: %v", c, x)
		}
		if c > 1 {
			wantStaysBad(t, "a truth's byte", r)
			continue
		}
		wantSound(t, "a truth's byte", r, sound{8, false, false})
	}
}

// P1.2: a count below 0, or above what is left divided by least; a least below
// 1 counts as 1.
func TestCount(t *testing.T) {
	cases := []struct {
		n     int64
		left  int
		least int
		ok    bool
	}{
		{0, 0, 1, true},
		{0, 0, math.MaxInt, true},
		{1, 0, 1, false},
		{3, 3, 1, true},
		{4, 3, 1, false},
		{2, 5, 2, true},
		{3, 5, 2, false},
		{3, 6, 2, true},
		{1, 8, 9, false},
		{1, 8, 8, true},
		{2, 15, 8, false},
		{2, 16, 8, true},
		{1, 8, math.MaxInt, false},
		{0, 8, math.MaxInt, true},
		{3, 3, 0, true},
		{4, 3, 0, false},
		{3, 3, -1, true},
		{4, 3, -1, false},
		{3, 3, -5, true},
		{4, 3, -5, false},
		{3, 3, math.MinInt, true},
		{4, 3, math.MinInt, false},
		{-1, 3, 1, false},
		{-1, 3, -1, false},
		{-1, 0, 0, false},
		{-3, 3, -1, false},
		{math.MinInt64, 8, 1, false},
		{math.MinInt64, 8, -1, false},
		{math.MaxInt64, 8, 1, false},
		{1 << 62, 8, 4, false},
		{1<<32 + 1, 8, 1, false},
	}
	for _, c := range cases {
		r := octet.Read(append(octet.PutInt(nil, c.n), make([]byte, c.left)...))
		got := r.Count(c.least)
		if !c.ok {
			if got != 0 {
				t.Errorf("%+v: %d", c, got)
			}
			wantStaysBad(t, "Count", r)
			continue
		}
		if int64(got) != c.n {
			t.Errorf("%+v: %d", c, got)
		}
		wantSound(t, "Count", r, sound{c.left, false, c.left == 0})
	}
}

// P1.2: what was right ahead of the fault doesn't help: a bad reader stays bad,
// whatever stands behind the fault.
func TestBadStaysBad(t *testing.T) {
	tail := octet.PutText(octet.PutBool(octet.PutInt(nil, 5), true), "abc")
	r := octet.Read(append(octet.PutBool(octet.PutInt(nil, 7), true), append([]byte{2}, tail...)...))
	if r.Int() != 7 || !r.Bool() {
		t.Error("ahead of the fault")
	}
	wantSound(t, "ahead of the fault", r, sound{1 + len(tail), false, false})
	if r.Bool() {
		t.Error("at the fault")
	}
	wantStaysBad(t, "behind the fault", r)
}

// P1.3: a reader reads what the bytes were when it was made, and changes
// neither them nor their spare room.
func TestReadKeepsNothing(t *testing.T) {
	whole := octet.PutBool(octet.PutText(octet.PutInt(nil, 258), "ab"), true)
	room := append(bytes.Clone(whole), 77, 77, 77)
	b := room[:len(whole)]
	before := bytes.Clone(room)
	r, other := octet.Read(b), octet.Read(b)
	other.Int()
	other.Text()
	other.Bool()
	other.Bool()
	wantBytes(t, "what is read", room, before)
	for i := range room {
		room[i] = 255
	}
	if n := r.Int(); n != 258 {
		t.Errorf("Int: %d", n)
	}
	s := r.Text()
	if s != "ab" || !r.Bool() {
		t.Errorf("Text: %q", s)
	}
	wantSound(t, "two readers", r, sound{0, false, true})
	wantSound(t, "two readers", other, spoilt)
}

// P1.3: the spare room behind the bytes is not read.
func TestReadNotBeyond(t *testing.T) {
	room := octet.PutText(nil, "abc")
	r := octet.Read(room[:10])
	if s := r.Text(); s != "" {
		t.Errorf("Text: %q", s)
	}
	wantStaysBad(t, "beyond", r)
	r = octet.Read(room[:7])
	if n := r.Int(); n != 0 {
		t.Errorf("Int: %d", n)
	}
	wantStaysBad(t, "beyond", r)
}
