package utf

import (
	"math"
	"math/rand"
	"slices"
	"strings"
	"testing"
)

// isCharacter tells whether a number is a character, by the chapter's words.
func isCharacter(n int32) bool {
	return n >= 0 && n <= 0x10FFFF && !(n >= 0xD800 && n <= 0xDFFF)
}

// plainBytes are a character's bytes, by the chapter's words.
func plainBytes(n int32) string {
	further := func(shift int) byte { return byte(0x80 + n>>shift&0x3F) }
	switch {
	case n <= 0x7F:
		return string([]byte{byte(n)})
	case n <= 0x7FF:
		return string([]byte{byte(0xC0 + n>>6), further(0)})
	case n <= 0xFFFF:
		return string([]byte{byte(0xE0 + n>>12), further(6), further(0)})
	}
	return string([]byte{byte(0xF0 + n>>18), further(12), further(6), further(0)})
}

// plainNumber is what so many bytes would spell, whether they do or not.
func plainNumber(b string) int32 {
	n := int32(b[0])
	if len(b) > 1 {
		n &= 0xFF >> (len(b) + 1)
	}
	for i := 1; i < len(b); i++ {
		n = n<<6 + int32(b[i]&0x3F)
	}
	return n
}

// plainFirst is the character at a text's beginning, and how many bytes it has; 0 bytes, if there is none.
func plainFirst(s string) (int32, int) {
	for size := 1; size <= min(4, len(s)); size++ {
		n := plainNumber(s[:size])
		if isCharacter(n) && plainBytes(n) == s[:size] {
			return n, size
		}
	}
	return 0, 0
}

// plainRunes are the characters of the longest beginning that is some, and the place behind it.
func plainRunes(s string) ([]int32, int) {
	var l []int32
	at := 0
	for at < len(s) {
		n, size := plainFirst(s[at:])
		if size == 0 {
			break
		}
		l = append(l, n)
		at += size
	}
	return l, at
}

func checkText(t *testing.T, s string, first int, l []int32) {
	t.Helper()
	count := len(l)
	if first >= 0 {
		count = -1
	}
	if got := First(s); got != first {
		t.Errorf("First(% .60x): %d, not %d", s, got, first)
	}
	if got := Count(s); got != count {
		t.Errorf("Count(% .60x): %d, not %d", s, got, count)
	}
	if got := Runes(s); !slices.Equal(got, l) {
		t.Errorf("Runes(% .60x): %x, not %x", s, got[:min(len(got), 30)], l[:min(len(l), 30)])
	}
}

// checkByWords holds a text against the reader by the chapter's words.
func checkByWords(t *testing.T, s string) {
	t.Helper()
	l, at := plainRunes(s)
	if at < len(s) {
		checkText(t, s, at, nil)
		return
	}
	checkText(t, s, -1, l)
}

func checkPut(t *testing.T, l []int32, s string, ok bool) {
	t.Helper()
	if got, right := Put(l...); got != s || right != ok {
		t.Errorf("Put(%x): % .60x, %t, not % .60x, %t", l[:min(len(l), 30)], got, right, s, ok)
	}
}

// edges are the characters at which the bytes become more, or the numbers end, and some known ones.
func edges() []int32 {
	return []int32{0, 1, 'a', 0x7E, 0x7F, 0x80, 0xE9, 0xFF, 0x100, 0x7FE, 0x7FF, 0x800, 0xFFF, 0x1000, 0x20AC, 0xCFFF, 0xD000,
		0xD7FF, 0xE000, 0xFDD0, 0xFEFF, 0xFFFC, 0xFFFD, 0xFFFE, 0xFFFF, 0x10000, 0x1F600, 0x3FFFF, 0x40000, 0xFFFFF, 0x100000, 0x10FFFE, 0x10FFFF}
}

// none are numbers that are no character.
func none() []int32 {
	return []int32{math.MinInt32, math.MinInt32 + 'a', -0x110000, -0x10000, -0xD800, -256, -'a', -2, -1, 0xD800, 0xD801, 0xDABC, 0xDBFF, 0xDC00, 0xDFFE, 0xDFFF,
		0x110000, 0x110001, 0x13FFFF, 0x140000, 0x1FFFFF, 0x200000, 0x3FFFFFF, 0x4000000, math.MaxInt32 - 1, math.MaxInt32}
}

func someCharacters(r *rand.Rand, n int) []int32 {
	known := edges()
	l := make([]int32, n)
	for i := range l {
		l[i] = known[r.Intn(len(known))]
		if other := r.Int31n(0x110000) >> (r.Intn(3) * 6); r.Intn(2) == 1 && isCharacter(other) {
			l[i] = other
		}
	}
	return l
}

func plainText(l []int32) string {
	var b strings.Builder
	for _, n := range l {
		b.WriteString(plainBytes(n))
	}
	return b.String()
}

// knownTexts are texts that are UTF-8, written out, with their characters.
func knownTexts() map[string][]int32 {
	return map[string][]int32{
		"":                         nil,
		"\x00":                     {0},
		"abc":                      {'a', 'b', 'c'},
		"\x61\xe2\x82\xac":         {'a', 0x20AC},
		"\x7f\xc2\x80":             {0x7F, 0x80},
		"\xdf\xbf\xe0\xa0\x80":     {0x7FF, 0x800},
		"\xef\xbf\xbf":             {0xFFFF},
		"\xf0\x90\x80\x80":         {0x10000},
		"\xf4\x8f\xbf\xbf":         {0x10FFFF},
		"\xed\x9f\xbf\xee\x80\x80": {0xD7FF, 0xE000},
		"\xef\xbf\xbd":             {0xFFFD},
		"\xef\xbf\xbd\xef\xbf\xbd": {0xFFFD, 0xFFFD},
		"\xef\xbf\xbda\xef\xbf\xbd\xf0\x9f\x98\x80\xef\xbf\xbd": {0xFFFD, 'a', 0xFFFD, 0x1F600, 0xFFFD},
		"\xef\xbb\xbfa":        {0xFEFF, 'a'},
		"e\xcc\x81\r\n":        {'e', 0x301, '\r', '\n'},
		"\xf0\x9f\x98\x80b":    {0x1F600, 'b'},
		"\xce\x93\xce\xb5\x00": {0x393, 0x3B5, 0},
	}
}

// P5.1 and P5.2: the chapter's example of Count, and others that are written out.
func TestKnownTexts(t *testing.T) {
	for s, l := range knownTexts() {
		checkText(t, s, -1, l)
		checkPut(t, l, s, true)
	}
}

// wrongTexts begin with bytes that are no character's.
func wrongTexts() []string {
	return []string{
		"\x80", "\xbf", "\x80\x80", "\xfe", "\xff", "\xff\xfe", "\xfe\xff", // no first byte
		"\xc3", "\xe2", "\xe2\x82", "\xf0", "\xf0\x9f", "\xf0\x9f\x98", "\xef\xbf", "\xef", // cut off
		"\xc3a", "\xe2\x82a", "\xe2a\xac", "\xf0\x9f\x98a", "\xef\xbfa", "\xc3\xc3\xa9", "\xe2\x82\xe2\x82\xac", "\xc3\x00", "\xef\xef\xbf\xbd", // not gone on with
		"\xc0\x80", "\xc0\xaf", "\xc1\xa1", "\xc1\xbf", "\xe0\x80\x80", "\xe0\x81\xa1", "\xe0\x9f\xbf", "\xf0\x80\x80\x80", "\xf0\x8f\xbf\xbf", "\xf0\x8f\xbf\xbd", "\xf0\x82\x82\xac", // in more bytes than they take
		"\xed\xa0\x80", "\xed\xad\xbf", "\xed\xaf\xbf", "\xed\xb0\x80", "\xed\xbf\xbf", "\xed\xa0\xbd\xed\xb8\x80", // from D800 to DFFF
		"\xf4\x90\x80\x80", "\xf4\xbf\xbf\xbf", "\xf5\x80\x80\x80", "\xf7\xbf\xbf\xbf", // above 10FFFF
		"\xf8\x88\x80\x80\x80", "\xfb\xbf\xbf\xbf\xbf", "\xfc\x84\x80\x80\x80\x80", "\xfd\xbf\xbf\xbf\xbf\xbf", // of five bytes, and of six
	}
}

// P5.1: the chapter's example of First, and what else isn't UTF-8, ahead of characters, behind them and between.
func TestWrongTexts(t *testing.T) {
	checkText(t, "\x61\xc3", 1, nil)
	for _, wrong := range wrongTexts() {
		for ahead := range knownTexts() {
			checkText(t, ahead+wrong, len(ahead), nil)
			checkText(t, ahead+wrong+"a", len(ahead), nil)
			checkText(t, ahead+wrong+"\xef\xbf\xbd", len(ahead), nil)
			checkText(t, ahead+wrong+wrong, len(ahead), nil)
		}
	}
}

// P5.1: the place is that of a byte, not of a character, and the first one of several.
func TestFirstTellsTheFirstPlace(t *testing.T) {
	for s, at := range map[string]int{
		"\xff\xef\xbf\xbd\xff":            0,
		"\xc3\xa9\xff\xff":                2,
		"\xef\xbf\xbd\xbd":                3,
		"\xef\xbf\xbd\xef\xbf":            3,
		"\xf0\x9f\x98\x80\x80":            4,
		"a\xe2\x82\xac\xe2\x82\xace\x80b": 8,
		"\xc2\x80x\x80":                   3,
	} {
		checkText(t, s, at, nil)
	}
}

// P5.1: a text that is cut off inside a character ends ahead of it.
func TestEachCut(t *testing.T) {
	for _, n := range edges() {
		s := "ab" + plainBytes(n)
		for cut := 3; cut < len(s); cut++ {
			checkText(t, s[:cut], 2, nil)
			checkText(t, "ab"+s[cut:], 2, nil)
		}
	}
}

// P5.1: all texts of one byte and of two, and those of three and four at whose bytes something changes.
func TestAllShortTexts(t *testing.T) {
	for i := range 256 {
		checkByWords(t, string([]byte{byte(i)}))
		for j := range 256 {
			checkByWords(t, string([]byte{byte(i), byte(j)}))
		}
	}
	turns := "\x00\x41\x7f\x80\x8f\x90\x9f\xa0\xbd\xbf\xc0\xc1\xc2\xdf\xe0\xe1\xec\xed\xee\xef\xf0\xf1\xf3\xf4\xf5\xf7\xf8\xff"
	for i := range turns {
		for j := range turns {
			for k := range turns {
				s := string([]byte{turns[i], turns[j], turns[k]})
				checkByWords(t, s)
				for m := range turns {
					checkByWords(t, s+turns[m:m+1])
				}
			}
		}
	}
}

// P5.1: some bytes, characters and wrong ones mixed.
func TestMixedTexts(t *testing.T) {
	r := rand.New(rand.NewSource(1))
	wrong := wrongTexts()
	for range 5000 {
		b := []byte(plainText(someCharacters(r, r.Intn(20))))
		switch at := r.Intn(len(b) + 1); r.Intn(3) {
		case 0:
			b = slices.Insert(b, at, []byte(wrong[r.Intn(len(wrong))])...)
		case 1:
			b = slices.Insert(b, at, byte(r.Intn(256)))
		case 2:
			b = slices.Delete(b, at, min(at+1, len(b)))
		}
		checkByWords(t, string(b))
	}
}

// P5.1 and P5.2: long texts, and the last place of one.
func TestLongTexts(t *testing.T) {
	for _, n := range []int32{0, 'a', 0xE9, 0xFFFD, 0x10FFFF} {
		l := slices.Repeat([]int32{n}, 1<<17)
		s := strings.Repeat(plainBytes(n), 1<<17)
		checkText(t, s, -1, l)
		checkText(t, s+"\xff", len(s), nil)
		checkPut(t, l, s, true)
		checkPut(t, append(l, -1), "", false)
	}
}

// P5.1: what is answered is new memory.
func TestRunesAreNewEachTime(t *testing.T) {
	s := "a\xe2\x82\xac"
	first := Runes(s)
	first[0], first[1] = -1, -1
	checkText(t, s, -1, []int32{'a', 0x20AC})
}

// P5.2 and P5.3: each number that may be a character, and some around them.
func TestPutOfEachNumber(t *testing.T) {
	for n := int32(-0x1000); n <= 0x111000; n++ {
		if !isCharacter(n) {
			checkPut(t, []int32{n}, "", false)
			continue
		}
		s := plainBytes(n)
		checkPut(t, []int32{n}, s, true)
		checkText(t, s, -1, []int32{n})
	}
}

// P5.2: nothing is a text, too.
func TestPutOfNothing(t *testing.T) {
	checkPut(t, nil, "", true)
	checkPut(t, []int32{}, "", true)
	if s, ok := Put(); s != "" || !ok {
		t.Errorf("Put(): %q, %t", s, ok)
	}
}

// P5.2: wherever the number stands that is no character.
func TestPutRefusesNumbers(t *testing.T) {
	for _, wrong := range none() {
		checkPut(t, []int32{wrong}, "", false)
		checkPut(t, []int32{wrong, wrong}, "", false)
		for at := range 5 {
			l := []int32{'a', 0xFFFD, 0x20AC, 0x10FFFF}
			checkPut(t, slices.Insert(l, at, wrong), "", false)
		}
	}
	// The two halves of a character of sixteen bits a piece are none.
	checkPut(t, []int32{0xD83D, 0xDE00}, "", false)
}

// P5.2: what is handed in stays as it is, its spare room too.
func TestPutLeavesTheNumbers(t *testing.T) {
	room := []int32{'a', 0xE9, 0x1F600, -1, 0xD800}
	was := slices.Clone(room)
	first, ok := Put(room[:3]...)
	Put(room...)
	if !slices.Equal(room, was) {
		t.Errorf("%x, not %x", room, was)
	}
	room[0] = 'b'
	if first != "a\xc3\xa9\xf0\x9f\x98\x80" || !ok {
		t.Errorf("% x, %t", first, ok)
	}
}

// P5.3: what is put is read as it was, and what is UTF-8 is put as it was.
func TestPutAndRunesAreOneAnotherTheOtherWayRound(t *testing.T) {
	r := rand.New(rand.NewSource(2))
	for range 3000 {
		l := someCharacters(r, r.Intn(40))
		s, ok := Put(l...)
		if !ok || s != plainText(l) {
			t.Fatalf("Put(%x): % x, %t", l, s, ok)
		}
		checkText(t, s, -1, l)
		checkPut(t, Runes(s), s, true)
	}
}

// P5.3: two texts, one behind the other, have all characters of both.
func TestTwoTextsTogether(t *testing.T) {
	r := rand.New(rand.NewSource(3))
	for range 3000 {
		a, b := someCharacters(r, r.Intn(9)), someCharacters(r, r.Intn(9))
		s, _ := Put(a...)
		other, _ := Put(b...)
		checkText(t, s+other, -1, slices.Concat(a, b))
		if Count(s+other) != Count(s)+Count(other) {
			t.Errorf("% x and % x: %d, %d, and together %d", s, other, Count(s), Count(other), Count(s+other))
		}
	}
	// Two that are none may be one together, so this holds of texts that are UTF-8 alone.
	checkText(t, "\xe2\x82"+"\xac", -1, []int32{0x20AC})
}

// P5.1 to P5.3: whatever the bytes are.
func FuzzTexts(f *testing.F) {
	for _, s := range wrongTexts() {
		f.Add(s, int32(0xD800))
	}
	for s := range knownTexts() {
		f.Add(s, int32(0xFFFD))
	}
	f.Fuzz(func(t *testing.T, s string, n int32) {
		checkByWords(t, s)
		if First(s) < 0 {
			checkPut(t, Runes(s), s, true)
		}
		l := append(Runes(s), n)
		if !isCharacter(n) {
			checkPut(t, l, "", false)
			return
		}
		checkPut(t, l, plainText(l), true)
	})
}
