package crc

import (
	"hash/crc32"
	"math"
	"math/rand"
	"strings"
	"testing"
)

// plain works the register byte by byte and bit by bit, as the chapter's section 'Words' says it.
func plain(register uint32, b string) uint32 {
	for i := range len(b) {
		register ^= uint32(b[i])
		for range 8 {
			if register&1 == 1 {
				register = register>>1 ^ 0xEDB88320
			} else {
				register >>= 1
			}
		}
	}
	return register
}

// someTexts are the empty one, all of one byte, and some of each short length, and longer ones.
func someTexts() []string {
	l := []string{"", "123456789", strings.Repeat("\x00", 100), strings.Repeat("\xff", 100), "\xff\xff\xff\xff\x00\x00\x00\x00"}
	for i := range 256 {
		l = append(l, string([]byte{byte(i)}), strings.Repeat(string([]byte{byte(i)}), 5))
	}
	r := rand.New(rand.NewSource(1))
	for n := range 70 {
		l = append(l, someBytes(r, n), someBytes(r, n), someBytes(r, n*37))
	}
	return l
}

func someBytes(r *rand.Rand, n int) string {
	b := make([]byte, n)
	for i := range b {
		b[i] = byte(r.Intn(256))
	}
	return string(b)
}

// someSums are the edges, each bit alone and each bit away, and some others.
func someSums() []uint32 {
	l := []uint32{0, 1, 255, 256, 0xCBF43926, 0xEDB88320, 0x01020304, math.MaxInt32, 1 << 31, math.MaxUint32}
	for i := range 32 {
		l = append(l, 1<<i, ^uint32(1<<i), 1<<i-1)
	}
	return l
}

// P3.1
func TestSumOfKnownTexts(t *testing.T) {
	for _, x := range []struct {
		b   string
		sum uint32
	}{
		{"", 0},
		{"123456789", 0xCBF43926},
		{"\x00", 0xD202EF8D},
		{"\xff", 0xFF000000},
		{"\x00\x00\x00\x00", 0x2144DF1C},
		{"\xff\xff\xff\xff", 0xFFFFFFFF},
		{"a", 0xE8B7BE43},
		{"b", 0x71BEEFF9},
		{"ab", 0x9E83486D},
		{"ba", 0x2CA74A14},
		{"abc", 0x352441C2},
		{"The quick brown fox jumps over the lazy dog", 0x414FA339},
	} {
		if got := Sum(x.b); got != x.sum {
			t.Errorf("Sum(%q): %08X, not %08X", x.b, got, x.sum)
		}
	}
}

// P3.1
func TestSumIsTheRegisterTurned(t *testing.T) {
	for _, b := range someTexts() {
		want := ^plain(0xFFFFFFFF, b)
		if got := Sum(b); got != want {
			t.Errorf("Sum(% x): %08X, not %08X", b, got, want)
		}
		if want != crc32.ChecksumIEEE([]byte(b)) {
			t.Errorf("the chapter's steps of % x: %08X, which is not IEEE 802.3's sum", b, want)
		}
	}
}

// P3.1: a text is bytes, those of no character among them, and may be long.
func TestSumOfLongTexts(t *testing.T) {
	r := rand.New(rand.NewSource(2))
	for _, b := range []string{someBytes(r, 1<<20), strings.Repeat("\x00", 1<<20), strings.Repeat("é\xff", 1<<18)} {
		if got, want := Sum(b), crc32.ChecksumIEEE([]byte(b)); got != want {
			t.Errorf("Sum of %d bytes: %08X, not %08X", len(b), got, want)
		}
	}
}

// P3.1: each byte at each of the first places takes its own steps.
func TestSumOfEachByteAtEachPlace(t *testing.T) {
	for at := range 6 {
		for i := range 256 {
			b := []byte("abcdef")
			b[at] = byte(i)
			if got, want := Sum(string(b)), ^plain(0xFFFFFFFF, string(b)); got != want {
				t.Errorf("Sum(% x): %08X, not %08X", b, got, want)
			}
		}
	}
}

// P3.2
func TestMoreGoesOn(t *testing.T) {
	texts := someTexts()
	for i, b := range texts {
		other := texts[(i*7+3)%len(texts)]
		if got, want := More(Sum(b), other), Sum(b+other); got != want {
			t.Errorf("More(Sum(% x), % x): %08X, not %08X", b, other, got, want)
		}
		if got := More(0, b); got != Sum(b) {
			t.Errorf("More(0, % x): %08X, not %08X", b, got, Sum(b))
		}
	}
}

// P3.2: wherever a text is cut, also at its ends, and into however many.
func TestMoreAtEachCut(t *testing.T) {
	r := rand.New(rand.NewSource(3))
	for _, b := range []string{"123456789", someBytes(r, 40), strings.Repeat("\x00", 40)} {
		one := Sum("")
		for i := range len(b) + 1 {
			if got := More(Sum(b[:i]), b[i:]); got != Sum(b) {
				t.Errorf("More, % x cut at %d: %08X, not %08X", b, i, got, Sum(b))
			}
			if one != Sum(b[:i]) {
				t.Errorf("More, byte by byte of % x: %08X, not %08X", b[:i], one, Sum(b[:i]))
			}
			if i < len(b) {
				one = More(one, b[i:i+1])
			}
		}
	}
}

// P3.2: every number is some bytes' sum, so More goes on with any.
func TestMoreOfAnySum(t *testing.T) {
	for _, sum := range someSums() {
		if got := More(sum, ""); got != sum {
			t.Errorf("More(%08X, nothing): %08X", sum, got)
		}
		for _, b := range []string{"a", "\x00", "\xff", "123456789", "\x00\x00\x00\x00\x00"} {
			want := ^plain(^sum, b)
			if got := More(sum, b); got != want {
				t.Errorf("More(%08X, % x): %08X, not %08X", sum, b, got, want)
			}
		}
	}
}

// P3.2
func TestPutTellsTheLowestByteFirst(t *testing.T) {
	for _, x := range []struct {
		sum uint32
		b   string
	}{
		{0, "\x00\x00\x00\x00"},
		{1, "\x01\x00\x00\x00"},
		{0x80, "\x80\x00\x00\x00"},
		{0x100, "\x00\x01\x00\x00"},
		{0x10000, "\x00\x00\x01\x00"},
		{0x1000000, "\x00\x00\x00\x01"},
		{0xFF000000, "\x00\x00\x00\xff"},
		{0x01020304, "\x04\x03\x02\x01"},
		{0xCBF43926, "\x26\x39\xf4\xcb"},
		{math.MaxUint32, "\xff\xff\xff\xff"},
	} {
		if got := Put(x.sum); got != x.b {
			t.Errorf("Put(%08X): % x, not % x", x.sum, got, x.b)
		}
		if got, ok := Get(x.b); got != x.sum || !ok {
			t.Errorf("Get(% x): %08X, %t, not %08X", x.b, got, ok, x.sum)
		}
	}
}

// P3.2
func TestGetIsPutTheOtherWayRound(t *testing.T) {
	for _, sum := range someSums() {
		if got, ok := Get(Put(sum)); got != sum || !ok {
			t.Errorf("Get(Put(%08X)): %08X, %t", sum, got, ok)
		}
	}
	r := rand.New(rand.NewSource(4))
	for range 1000 {
		b := someBytes(r, 4)
		sum, ok := Get(b)
		if !ok || Put(sum) != b {
			t.Errorf("Get(% x): %08X, %t, put as % x", b, sum, ok, Put(sum))
		}
	}
}

// P3.2
func TestGetRefusesOtherLengths(t *testing.T) {
	for _, c := range []string{"\x00", "\x01", "a", "\xff"} {
		for n := range 20 {
			sum, ok := Get(strings.Repeat(c, n))
			if n != 4 && (sum != 0 || ok) {
				t.Errorf("Get of %d bytes %x: %08X, %t", n, c, sum, ok)
			}
			if n == 4 && !ok {
				t.Errorf("Get of 4 bytes %x: false", c)
			}
		}
	}
	// Four characters may be more than four bytes, and one may be four.
	if sum, ok := Get("éééé"); sum != 0 || ok {
		t.Errorf("Get of four characters: %08X, %t", sum, ok)
	}
	if sum, ok := Get("\U0001F600"); sum != 0x80989FF0 || !ok {
		t.Errorf("Get of a character of four bytes: %08X, %t", sum, ok)
	}
}

// turned is b with one bit turned; the bits are counted as the register takes them, each byte's lowest first.
func turned(b string, bit int) string {
	l := []byte(b)
	l[bit/8] ^= 1 << (bit % 8)
	return string(l)
}

// independent tells whether no exclusive or of some of these numbers is 0.
func independent(numbers []uint32) bool {
	var byTop [32]uint32
	for _, n := range numbers {
		for top := 31; top >= 0 && n != 0; top-- {
			if n>>top&1 == 0 {
				continue
			}
			if byTop[top] == 0 {
				byTop[top] = n
				break
			}
			n ^= byTop[top]
		}
		if n == 0 {
			return false
		}
	}
	return true
}

// P3.3: what a bit changes of the sum is put together by exclusive or, so that
// all changes within 32 bits on end are told if those of the 32 are independent.
func TestChangesWithin32BitsAreTold(t *testing.T) {
	r := rand.New(rand.NewSource(5))
	for _, n := range []int{4, 5, 8, 25, 300} {
		b := someBytes(r, n)
		for from := range n*8 - 31 {
			var changes []uint32
			for bit := range 32 {
				changes = append(changes, Sum(b)^Sum(turned(b, from+bit)))
			}
			if !independent(changes) {
				t.Fatalf("of %d bytes: some change of the 32 bits from %d on isn't told", n, from)
			}
		}
	}
}

// P3.3
func TestChangedTextsHaveUnlikeSums(t *testing.T) {
	r := rand.New(rand.NewSource(6))
	for range 3000 {
		b := someBytes(r, 1+r.Intn(60))
		from := r.Intn(len(b) * 8)
		to := min(from+1+r.Intn(32), len(b)*8)
		other := turned(b, from)
		for bit := from + 1; bit < to; bit++ {
			if r.Intn(2) == 1 {
				other = turned(other, bit)
			}
		}
		if Sum(b) == Sum(other) {
			t.Errorf("% x and % x: one sum, %08X", b, other, Sum(b))
		}
	}
}

// P3.3: the edges: one bit, all of 32, and the two at the ends of 32.
func TestNamedChangesHaveUnlikeSums(t *testing.T) {
	b := strings.Repeat("\x00\xff123456789", 3)
	for from := range len(b) * 8 {
		others := []string{turned(b, from)}
		if from+31 < len(b)*8 {
			all := b
			for bit := from; bit < from+32; bit++ {
				all = turned(all, bit)
			}
			others = append(others, all, turned(turned(b, from), from+31))
		}
		for _, other := range others {
			if Sum(b) == Sum(other) {
				t.Errorf("% x and % x: one sum, %08X", b, other, Sum(b))
			}
		}
	}
}

func together(a, b, c string) string {
	l := []byte(a)
	for i := range l {
		l[i] ^= b[i] ^ c[i]
	}
	return string(l)
}

// P3.3
func TestThreeTextsTogether(t *testing.T) {
	r := rand.New(rand.NewSource(8))
	for n := range 200 {
		a, b, c := someBytes(r, n), someBytes(r, n), someBytes(r, n)
		if got, want := Sum(together(a, b, c)), Sum(a)^Sum(b)^Sum(c); got != want {
			t.Errorf("% x, % x, % x: %08X together, not %08X", a, b, c, got, want)
		}
	}
	// A text that is there twice goes out.
	if got := Sum(together("abc", "xyz", "abc")); got != Sum("xyz") {
		t.Errorf("xyz, and abc twice: %08X, not %08X", got, Sum("xyz"))
	}
}

// The table of the bytes' steps: known words of it.
func TestStepOfKnownBytes(t *testing.T) {
	for _, x := range []struct {
		b    byte
		step uint32
	}{
		{0, 0},
		{1, 0x77073096},
		{2, 0xEE0E612C},
		{16, 0x1DB71064},
		{127, 0xC0BA6CAD},
		{128, 0xEDB88320},
		{254, 0x5A05DF1B},
		{255, 0x2D02EF8D},
	} {
		if got := Step(x.b); got != x.step {
			t.Errorf("Step(%02X): %08X, not %08X", x.b, got, x.step)
		}
	}
}

// The table of the bytes' steps: each byte's are those of the chapter, of a register that is 0.
func TestStepOfEachByte(t *testing.T) {
	for i := range 256 {
		want := plain(0, string([]byte{byte(i)}))
		if got := Step(byte(i)); got != want {
			t.Errorf("Step(%02X): %08X, not %08X", i, got, want)
		}
		if want != crc32.IEEETable[i] {
			t.Errorf("the chapter's steps of %02X: %08X, which is not IEEE 802.3's", i, want)
		}
	}
}

// The table of the bytes' steps leads to the sums that P3.1 tells: a look in it is a byte's eight steps.
func TestStepsLeadToTheSums(t *testing.T) {
	for _, b := range someTexts() {
		register := uint32(0xFFFFFFFF)
		for i := range len(b) {
			register = register>>8 ^ Step(byte(register)^b[i])
		}
		if got := Sum(b); got != ^register {
			t.Errorf("Sum(% x): %08X, and by the table %08X", b, got, ^register)
		}
	}
}

// The calls work their answers out by a function: P3.1 and P3.2 hold whatever stands in the table.
func TestSumsDoNotHangOnTheTable(t *testing.T) {
	laid := steps
	defer func() { steps = laid }()
	steps = [256]uint32{}
	if got := Sum("123456789"); got != 0xCBF43926 {
		t.Errorf("Sum without the table: %08X", got)
	}
	if got := More(0xE8B7BE43, "bc"); got != 0x352441C2 {
		t.Errorf("More without the table: %08X", got)
	}
	if got, ok := Get(Put(0xCBF43926)); got != 0xCBF43926 || !ok {
		t.Errorf("Get(Put) without the table: %08X, %t", got, ok)
	}
	if got := Step(1); got != 0 {
		t.Errorf("Step(1) without the table: %08X: it isn't read there", got)
	}
}

// The table of the start-up isn't changed by what is asked: the same question has the same answer.
func TestSameAgain(t *testing.T) {
	first := steps
	for range 2 {
		if Sum("123456789") != 0xCBF43926 || More(0xE8B7BE43, "bc") != 0x352441C2 || Step(255) != 0x2D02EF8D {
			t.Error("another answer")
		}
	}
	if steps != first || steps != laySteps() {
		t.Error("another table")
	}
}

// P3.1 to P3.3: whatever the bytes are.
func FuzzSum(f *testing.F) {
	f.Add("", 0)
	f.Add("123456789", 4)
	f.Add("\xff\xff\xff\xff", -1)
	f.Fuzz(func(t *testing.T, b string, cut int) {
		sum := Sum(b)
		if sum != ^plain(0xFFFFFFFF, b) {
			t.Errorf("Sum(% x): %08X", b, sum)
		}
		cut = min(max(cut, 0), len(b))
		if got := More(Sum(b[:cut]), b[cut:]); got != sum {
			t.Errorf("More, % x cut at %d: %08X, not %08X", b, cut, got, sum)
		}
		if got, ok := Get(Put(sum)); got != sum || !ok {
			t.Errorf("Get(Put(%08X)): %08X, %t", sum, got, ok)
		}
		got, ok := Get(b)
		if ok != (len(b) == 4) || ok && Put(got) != b || !ok && got != 0 {
			t.Errorf("Get(% x): %08X, %t", b, got, ok)
		}
	})
}
