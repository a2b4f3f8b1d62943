package strtab

import (
	"fmt"
	"math"
	"math/rand"
	"slices"
	"strings"
	"testing"
	"unicode/utf8"
	"unsafe"

	"diorama/api"
	"diorama/varint"
)

// plainTable is the bytes of texts, by the words of P6.2.
func plainTable(l ...string) string {
	b := varint.Put(uint64(len(l)))
	for _, s := range l {
		b += varint.Put(uint64(len(s))) + s
	}
	return b
}

// plainUint is a number at a place, by the words of P6.3: layer 1's errors, then the limit.
func plainUint(b string, at, most int) (int, int, api.Errno) {
	n, next, e := varint.Get(b, at)
	if e == api.OK && (n > uint64(max(0, most)) || n > 1<<24) {
		return 0, 0, api.ErrLimit
	}
	return int(n), next, e
}

// plainGet reads a table by the words of P6.3, one by one.
func plainGet(b string, texts, bytes int) ([]string, api.Errno) {
	count, at, e := plainUint(b, 0, texts)
	if e != api.OK {
		return nil, e
	}
	var l []string
	ahead := 0
	for range count {
		n, next, e := plainUint(b, at, max(0, bytes)-ahead)
		if e != api.OK {
			return nil, e
		}
		if n > len(b)-next {
			return nil, api.ErrCut
		}
		s := b[next : next+n]
		if !utf8.ValidString(s) {
			return nil, api.ErrText
		}
		if slices.Contains(l, s) {
			return nil, api.ErrTwice
		}
		l, at, ahead = append(l, s), next+n, ahead+n
	}
	if at < len(b) {
		return nil, api.ErrMore
	}
	return l, api.OK
}

// outside are numbers that no text of so many has.
func outside(count int) []int {
	return []int{math.MinInt, math.MinInt32, -2, -1, count, count + 1, count + 1<<32, math.MaxInt}
}

// checkTable wants a table to have just these texts, each at its place, and to have them still behind all calls that ask.
func checkTable(t *testing.T, what string, x *Table, l ...string) {
	t.Helper()
	for range 2 {
		if got, want := x.Len(), len(l); got != want {
			t.Errorf("%s: Len %d, not %d", what, got, want)
		}
		if got, want := x.Bytes(), len(strings.Join(l, "")); got != want {
			t.Errorf("%s: Bytes %d, not %d", what, got, want)
		}
		if got, want := x.Put(), plainTable(l...); got != want {
			t.Errorf("%s: Put % .60x, not % .60x", what, got, want)
		}
		for i, s := range l {
			if got, ok := x.At(i); got != s || !ok {
				t.Errorf("%s: At(%d): %.60q, %t, not %.60q", what, i, got, ok, s)
			}
			if got := x.Intern(s); got != i {
				t.Errorf("%s: Intern(%.60q): %d, not %d", what, s, got, i)
			}
		}
		for _, n := range outside(len(l)) {
			if got, ok := x.At(n); got != "" || ok {
				t.Errorf("%s: At(%d): %.60q, %t", what, n, got, ok)
			}
		}
	}
}

func checkGot(t *testing.T, b string, texts, bytes int, l ...string) {
	t.Helper()
	what := fmt.Sprintf("Get(% .60x, %d, %d)", b, texts, bytes)
	x, e := Get(b, texts, bytes)
	if e != api.OK || x == nil {
		t.Errorf("%s: %v, %d, not a table", what, x, e)
		return
	}
	checkTable(t, what, x, l...)
}

func checkRefused(t *testing.T, b string, texts, bytes int, e api.Errno) {
	t.Helper()
	if x, got := Get(b, texts, bytes); got != e || x != nil {
		t.Errorf("Get(% .60x, %d, %d): %v, %d, not nil, %d", b, texts, bytes, x, got, e)
	}
}

// checkGet holds Get against the words of P6.3.
func checkGet(t *testing.T, b string, texts, bytes int) {
	t.Helper()
	l, e := plainGet(b, texts, bytes)
	if e != api.OK {
		checkRefused(t, b, texts, bytes, e)
		return
	}
	checkGot(t, b, texts, bytes, l...)
}

// interned is a new table of these texts.
func interned(l ...string) *Table {
	x := New()
	for _, s := range l {
		x.Intern(s)
	}
	return x
}

// P6.1
func TestNewHasNone(t *testing.T) {
	checkTable(t, "New", New())
}

// P6.1: the chapter's example.
func TestInternTellsTheFirstPlace(t *testing.T) {
	x := New()
	for i, want := range []int{0, 1, 0} {
		if got := x.Intern([]string{"a", "b", "a"}[i]); got != want {
			t.Errorf("text %d: %d, not %d", i, got, want)
		}
	}
	checkTable(t, "a, b, a", x, "a", "b")
	if b := x.Put(); b != "\x02\x01a\x01b" {
		t.Errorf("Put: % x", b)
	}
}

// alikes are texts that are others all the same: by their length, their bytes, their case or their spelling.
func alikes() []string {
	return []string{
		"", "a", "aa", "aaa", "A", "b", "ab", "ba", "a ", " a", "a\x00", "\x00", "\x00\x00", "0",
		"\u00e9", "e\u0301", "\xe9", "\xc3", "\xa9", "\ufffd", "\xff", "\xff\xff", "\xed\xa0\x80", "\xc0\x80",
		strings.Repeat("x", 127), strings.Repeat("x", 128), strings.Repeat("x", 300), strings.Repeat("x", 299) + "y",
	}
}

// P6.1: texts are told apart byte by byte, UTF-8 or not.
func TestInternTellsTextsApart(t *testing.T) {
	l := alikes()
	x := New()
	for i, s := range l {
		if got := x.Intern(s); got != i {
			t.Errorf("Intern(%.60q): %d, not %d", s, got, i)
		}
		checkTable(t, fmt.Sprintf("%d texts", i+1), x, l[:i+1]...)
	}
	slices.Reverse(l)
	checkTable(t, "the other way round", interned(l...), l...)
}

// P6.1: many texts, most of them often, against a search from the front.
func TestInternManyTexts(t *testing.T) {
	r := rand.New(rand.NewSource(1))
	x := New()
	var l []string
	for range 20000 {
		s := strings.Repeat(string(rune('a'+r.Intn(26))), r.Intn(40))
		want := slices.Index(l, s)
		if want < 0 {
			want = len(l)
			l = append(l, s)
		}
		if got := x.Intern(s); got != want {
			t.Fatalf("Intern(%q): %d, not %d", s, got, want)
		}
		if x.Len() != len(l) {
			t.Fatalf("Len %d, not %d", x.Len(), len(l))
		}
	}
	checkTable(t, "many", x, l...)
}

// P6.1: what one table is told, the others don't know.
func TestTablesAreApart(t *testing.T) {
	b := plainTable("a", "b")
	got, _ := Get(b, 2, 2)
	one, other := New(), New()
	one.Intern("c")
	other.Intern("d")
	other.Intern("c")
	if n := got.Intern("c"); n != 2 {
		t.Errorf("Intern behind those that were got: %d", n)
	}
	checkTable(t, "one", one, "c")
	checkTable(t, "the other", other, "d", "c")
	checkTable(t, "what was got", got, "a", "b", "c")
	checkTable(t, "a new one", New())
	checkGot(t, b, 2, 2, "a", "b")
}

// P6.1 and P6.3: what is handed in isn't kept: not even a text whose bytes become others hurts a table.
func TestTextsAreCopied(t *testing.T) {
	bytes := []byte("\x02\x01a\x02bc")
	text := unsafe.String(&bytes[0], len(bytes))
	x := New()
	x.Intern(text[2:3])
	x.Intern(text[4:6])
	got, _ := Get(text, 2, 3)
	clear(bytes)
	checkTable(t, "interned", x, "a", "bc")
	checkTable(t, "got", got, "a", "bc")
}

// P6.2
func TestPutTellsTheBytes(t *testing.T) {
	x := func(n int) string { return strings.Repeat("x", n) }
	for _, c := range []struct {
		l []string
		b string
	}{
		{nil, "\x00"},
		{[]string{""}, "\x01\x00"},
		{[]string{"a"}, "\x01\x01a"},
		{[]string{"a", "b"}, "\x02\x01a\x01b"},
		{[]string{"b", "a"}, "\x02\x01b\x01a"},
		{[]string{"b", "", "a"}, "\x03\x01b\x00\x01a"},
		{[]string{"a", "b", "a"}, "\x02\x01a\x01b"},
		{[]string{"\xff\x00"}, "\x01\x02\xff\x00"},
		{[]string{"\u20ac"}, "\x01\x03\xe2\x82\xac"},
		{[]string{x(127), x(128)}, "\x02\x7f" + x(127) + "\x80\x01" + x(128)},
		{[]string{x(300)}, "\x01\xac\x02" + x(300)},
	} {
		if got := interned(c.l...).Put(); got != c.b {
			t.Errorf("%.60q: % .60x, not % .60x", c.l, got, c.b)
		}
	}
}

// numbered are so many texts, no two alike.
func numbered(count int) []string {
	var l []string
	for i := range count {
		l = append(l, fmt.Sprint(i))
	}
	return l
}

// P6.2: the count takes two bytes from 128 texts on.
func TestPutOfManyTexts(t *testing.T) {
	for _, x := range []struct {
		count int
		b     string
	}{{127, "\x7f\x010"}, {128, "\x80\x01\x010"}, {300, "\xac\x02\x010"}} {
		l := numbered(x.count)
		if b := interned(l...).Put(); !strings.HasPrefix(b, x.b) || b != plainTable(l...) {
			t.Errorf("%d texts: % .60x", x.count, b)
		}
	}
}

// P6.3: what each error is told of, within three texts and five bytes.
func TestGet(t *testing.T) {
	for _, x := range []struct {
		b string
		e api.Errno
	}{
		{"\x00", api.OK}, {"\x01\x00", api.OK}, {"\x01\x01a", api.OK}, {"\x02\x01a\x01b", api.OK}, {"\x02\x01b\x01a", api.OK},
		{"\x03\x00\x03abc\x02ab", api.OK}, {"\x03\x05abcde\x00\x00", api.ErrTwice}, {"\x02\x05abcde\x00", api.OK},
		{"", api.ErrCut}, {"\x80", api.ErrCut}, {"\x01", api.ErrCut}, {"\x01\x80", api.ErrCut}, {"\x03\x00\x01a", api.ErrCut},
		{"\x80\x00", api.ErrLong}, {"\x81\x00", api.ErrLong}, {"\x01\x81\x00a", api.ErrLong}, {"\x02\x01a\x80\x00", api.ErrLong},
		{strings.Repeat("\xff", 9) + "\x02", api.ErrLong}, {"\x01" + strings.Repeat("\xff", 9) + "\x02", api.ErrLong},
		{strings.Repeat("\xff", 9) + "\x01", api.ErrLimit}, {"\x01" + strings.Repeat("\xff", 9) + "\x01", api.ErrLimit},
		{"\x04\x00\x01a\x01b\x01c", api.ErrLimit}, {"\x04", api.ErrLimit}, {"\xac\x02", api.ErrLimit},
		{"\x01\x06abcdef", api.ErrLimit}, {"\x01\x06", api.ErrLimit}, {"\x02\x03abc\x03abd", api.ErrLimit}, {"\x03\x03abc\x02ab\x01a", api.ErrLimit},
		{"\x01\x01", api.ErrCut}, {"\x01\x02a", api.ErrCut}, {"\x02\x01a\x01", api.ErrCut}, {"\x02\x01a\x04bcd", api.ErrCut},
		{"\x01\x01\xff", api.ErrText}, {"\x02\x01a\x01\xff", api.ErrText}, {"\x01\x03\xe2\x82\xac", api.OK},
		{"\x02\x00\x00", api.ErrTwice}, {"\x02\x01a\x01a", api.ErrTwice}, {"\x03\x01a\x01b\x01a", api.ErrTwice}, {"\x03\x01a\x02bc\x02bc", api.ErrTwice},
		{"\x00\x00", api.ErrMore}, {"\x00\x80", api.ErrMore}, {"\x01\x01a\x00", api.ErrMore}, {"\x01\x00\x01a", api.ErrMore}, {"\x02\x01a\x01b\xff", api.ErrMore},
	} {
		if _, e := plainGet(x.b, 3, 5); e != x.e {
			t.Errorf("% x: by the words %d, not %d", x.b, e, x.e)
		}
		checkGet(t, x.b, 3, 5)
	}
}

// P6.3: the count may be as great as texts, and 2^24; a limit below 0 counts as 0.
func TestGetHoldsTheCount(t *testing.T) {
	for count := range 5 {
		l := numbered(count)
		b := plainTable(l...)
		for texts := count; texts < 7; texts++ {
			checkGot(t, b, texts, count, l...)
		}
		for texts := range count {
			checkRefused(t, b, texts, count, api.ErrLimit)
		}
		checkGot(t, b, math.MaxInt, count, l...)
	}
	for _, texts := range []int{math.MinInt, math.MinInt32, -1, 0} {
		checkGot(t, "\x00", texts, 9)
		checkRefused(t, "\x00\x00", texts, 9, api.ErrMore)
		checkRefused(t, "\x01\x00", texts, 9, api.ErrLimit)
		checkRefused(t, "", texts, 9, api.ErrCut)
		checkRefused(t, "\x80\x00", texts, 9, api.ErrLong)
	}
	greatest, above := varint.Put(1<<24), varint.Put(1<<24+1)
	for _, texts := range []int{1 << 24, 1<<24 + 1, 1 << 40, math.MaxInt} {
		checkRefused(t, greatest, texts, 9, api.ErrCut)
		checkRefused(t, greatest+"\x01a\x01a", texts, 9, api.ErrTwice)
		checkRefused(t, above, texts, 9, api.ErrLimit)
		checkRefused(t, varint.Put(1<<32), texts, 9, api.ErrLimit)
		checkRefused(t, varint.Put(1<<63), texts, 9, api.ErrLimit)
	}
	checkRefused(t, greatest, 1<<24-1, 9, api.ErrLimit)
}

// P6.3: a length may be as great as what bytes leaves, and 2^24; a limit below 0 counts as 0.
func TestGetHoldsTheBytes(t *testing.T) {
	l := []string{"abc", "", "de", "fghi"}
	b := plainTable(l...)
	for bytes := -1; bytes < 9; bytes++ {
		checkRefused(t, b, 4, bytes, api.ErrLimit)
	}
	for _, bytes := range []int{9, 10, 1 << 24, math.MaxInt} {
		checkGot(t, b, 4, bytes, l...)
	}
	for _, bytes := range []int{math.MinInt, math.MinInt32, -1, 0} {
		checkGot(t, "\x00", 9, bytes)
		checkGot(t, "\x01\x00", 9, bytes, "")
		checkRefused(t, "\x02\x00\x00", 9, bytes, api.ErrTwice)
		checkRefused(t, "\x02\x00\x01a", 9, bytes, api.ErrLimit)
		checkRefused(t, "\x01\x01a", 9, bytes, api.ErrLimit)
	}
	greatest, above := varint.Put(1<<24), varint.Put(1<<24+1)
	for _, bytes := range []int{1<<24 + 1, 1 << 40, math.MaxInt} {
		checkRefused(t, "\x01"+greatest, 9, bytes, api.ErrCut)
		checkRefused(t, "\x01"+above, 9, bytes, api.ErrLimit)
		checkRefused(t, "\x02\x01a"+greatest, 9, bytes, api.ErrCut)
		checkRefused(t, "\x02\x01a"+above, 9, bytes, api.ErrLimit)
		checkRefused(t, "\x01"+varint.Put(1<<32), 9, bytes, api.ErrLimit)
		checkRefused(t, "\x01"+varint.Put(1<<63), 9, bytes, api.ErrLimit)
	}
	checkRefused(t, "\x01"+greatest, 9, 1<<24, api.ErrCut)
	checkRefused(t, "\x02\x01a"+greatest, 9, 1<<24, api.ErrLimit)
	checkRefused(t, "\x01"+greatest, 9, 1<<24-1, api.ErrLimit)
}

// P6.3: 2^24 bytes are a text, one more is none.
func TestLongestText(t *testing.T) {
	longest := strings.Repeat("a", 1<<24)
	b := plainTable(longest)
	checkGot(t, b, 1, 1<<24, longest)
	checkRefused(t, b[:len(b)-1], 1, 1<<24, api.ErrCut)
	checkRefused(t, b+"a", 1, 1<<24, api.ErrMore)
	checkRefused(t, plainTable(longest+"a"), 1, math.MaxInt, api.ErrLimit)
}

// P6.3: each text must be UTF-8 by itself, wherever it stands.
func TestGetHoldsToUTF8(t *testing.T) {
	for _, s := range []string{"\x80", "\xbf", "\xc3", "\xe2\x82", "\xf0\x9f\x98", "a\xff", "\xffa", "\xc0\x80", "\xe0\x80\x80", "\xed\xa0\x80", "\xed\xbf\xbf", "\xf4\x90\x80\x80", "\xfe"} {
		checkRefused(t, plainTable(s), 9, 99, api.ErrText)
		checkRefused(t, plainTable("", "a", s, "b"), 9, 99, api.ErrText)
		checkRefused(t, plainTable(s)+"more", 9, 99, api.ErrText)
	}
	checkRefused(t, plainTable("\xc3", "\xa9"), 9, 99, api.ErrText)
	l := []string{"\u00e9", "e\u0301", "\ufffd", "\x00", "\x7f", "\u0080", "\u07ff", "\u0800", "\ud7ff", "\ue000", "\uffff", "\U00010000", "\U0010ffff"}
	checkGot(t, plainTable(l...), len(l), 99, l...)
}

// P6.3: a text may not stand twice, however far apart.
func TestGetHoldsToEachOnce(t *testing.T) {
	l := append(numbered(300), "")
	checkGot(t, plainTable(l...), 400, 4000, l...)
	for i, s := range l {
		b := plainTable(append(slices.Clone(l), s)...)
		checkRefused(t, b, 400, 4000, api.ErrTwice)
		if i%50 == 0 {
			checkRefused(t, b+"more", 400, 4000, api.ErrTwice)
		}
	}
}

// P6.3: of several errors the one that stands first, and of one text the one that is named first.
func TestGetTellsTheFirstError(t *testing.T) {
	checkRefused(t, "\x04\x09\xff", 3, 5, api.ErrLimit)
	checkRefused(t, "\x80\x00\x80", 3, 5, api.ErrLong)
	checkRefused(t, "\x02\x06\xff", 3, 5, api.ErrLimit)
	checkRefused(t, "\x01\x02\xff", 3, 5, api.ErrCut)
	checkRefused(t, "\x02\x01\xff\x01\xff", 3, 5, api.ErrText)
	checkRefused(t, "\x03\x01a\x01a\x01\xff", 3, 5, api.ErrTwice)
	checkRefused(t, "\x03\x01a\x01\xff\x01a", 3, 5, api.ErrText)
	checkRefused(t, "\x03\x01a\x01a\x06", 3, 5, api.ErrTwice)
	checkRefused(t, "\x03\x01a\x06\x01a", 3, 5, api.ErrLimit)
	checkRefused(t, "\x03\x01a\x01a", 3, 5, api.ErrTwice)
	checkRefused(t, "\x02\x01a\x01aa", 3, 5, api.ErrTwice)
	checkRefused(t, "\x02\x01a\x80\x00\xff", 3, 5, api.ErrLong)
}

// P6.3: all short bytes of some kinds, within several limits.
func TestGetOfAllShortBytes(t *testing.T) {
	kinds := "\x00\x01\x02\x03a\x80\xc2"
	all := []string{""}
	for from := 0; len(all[from]) < 6; from++ {
		for i := range len(kinds) {
			all = append(all, all[from]+kinds[i:i+1])
		}
	}
	for _, b := range all {
		for _, x := range [][2]int{{3, 5}, {2, 2}, {-1, 1}} {
			l, e := plainGet(b, x[0], x[1])
			if got, gotE := Get(b, x[0], x[1]); gotE != e || (got != nil) != (e == api.OK) || e == api.OK && !slices.Equal(got.texts, l) {
				t.Fatalf("Get(% x, %d, %d): %v, %d, not %q, %d", b, x[0], x[1], got, gotE, l, e)
			}
		}
	}
}

// someTexts are texts of any characters, no two alike.
func someTexts(r *rand.Rand) []string {
	var l []string
	for range r.Intn(12) {
		var s []rune
		for range r.Intn(6) {
			s = append(s, []rune{0, 'a', 'b', 0x7F, 0x80, 0xE9, 0x20AC, 0xFFFD, 0x1F600, 0x10FFFF}[r.Intn(10)])
		}
		if !slices.Contains(l, string(s)) {
			l = append(l, string(s))
		}
	}
	return l
}

// P6.4
func TestWhatIsPutIsGot(t *testing.T) {
	r := rand.New(rand.NewSource(2))
	for range 3000 {
		l := someTexts(r)
		x := interned(l...)
		checkGot(t, x.Put(), x.Len(), x.Bytes(), l...)
		checkGot(t, x.Put(), math.MaxInt, math.MaxInt, l...)
	}
	l := numbered(70000)
	x := interned(l...)
	got, e := Get(x.Put(), x.Len(), x.Bytes())
	if e != api.OK || !slices.Equal(got.texts, l) {
		t.Errorf("%d texts: %d", len(l), e)
	}
}

// P6.4: what isn't UTF-8 is put, and refused.
func TestWhatIsNotUTF8IsNotGot(t *testing.T) {
	for _, s := range alikes() {
		x := interned("a first one", s)
		if utf8.ValidString(s) {
			checkGot(t, x.Put(), 2, x.Bytes(), "a first one", s)
		} else {
			checkRefused(t, x.Put(), 2, x.Bytes(), api.ErrText)
		}
	}
}

// checkPutAgain holds Get against the words of P6.3, and what is got against the bytes.
func checkPutAgain(t *testing.T, b string, texts, bytes int) {
	t.Helper()
	checkGet(t, b, texts, bytes)
	if x, e := Get(b, texts, bytes); e == api.OK && x.Put() != b {
		t.Errorf("% x: put as % x", b, x.Put())
	}
}

// changed is b with a few bytes put, dropped, or changed.
func changed(r *rand.Rand, b string) string {
	for range 1 + r.Intn(3) {
		at := r.Intn(len(b) + 1)
		to := min(at+r.Intn(3), len(b))
		b = b[:at] + []string{"", "\x00", "\x01", "\x02a", "\x80", "\xff", "a"}[r.Intn(7)] + b[to:]
	}
	return b
}

// P6.4: of whatever is got, changed tables among them.
func TestWhatIsGotIsPutAsItWas(t *testing.T) {
	r := rand.New(rand.NewSource(3))
	for range 10000 {
		b := plainTable(someTexts(r)...)
		checkPutAgain(t, b, 99, 999)
		checkPutAgain(t, b, r.Intn(12), r.Intn(60))
		checkPutAgain(t, changed(r, b), 99, 999)
	}
}

// P6.4: behind what was got, too, each text has one number, and each number one text.
func TestEachTextHasOneNumber(t *testing.T) {
	r := rand.New(rand.NewSource(4))
	for range 300 {
		l := someTexts(r)
		x, e := Get(plainTable(l...), 99, 999)
		if e != api.OK {
			t.Fatalf("%q: %d", l, e)
		}
		for _, s := range append(someTexts(r), alikes()...) {
			if !slices.Contains(l, s) {
				l = append(l, s)
			}
			if n := x.Intern(s); n != slices.Index(l, s) {
				t.Errorf("Intern(%.60q): %d, not %d", s, n, slices.Index(l, s))
			}
		}
		checkTable(t, "got, and more", x, l...)
	}
}

// P6.3 and P6.4: whatever the bytes and the limits are.
func FuzzGet(f *testing.F) {
	f.Add("\x02\x01a\x01b", 2, 2)
	f.Add("\x02\x00\x00", 3, 5)
	f.Add("\x01\x03\xe2\x82\xac", 1, 3)
	f.Add("\x81\x00", -1, math.MinInt)
	f.Fuzz(func(t *testing.T, b string, texts, bytes int) {
		checkPutAgain(t, b, texts, bytes)
	})
}
