package varint

import (
	"math"
	"strings"
	"testing"

	"diorama/api"
)

// spellings are numbers and their bytes, with both sides of every edge at which a byte is added.
var spellings = []struct {
	n uint64
	b string
}{
	{0, "\x00"},
	{1, "\x01"},
	{127, "\x7f"},
	{128, "\x80\x01"},
	{300, "\xac\x02"},
	{1<<14 - 1, "\xff\x7f"},
	{1 << 14, "\x80\x80\x01"},
	{1<<21 - 1, "\xff\xff\x7f"},
	{1 << 21, "\x80\x80\x80\x01"},
	{1<<28 - 1, "\xff\xff\xff\x7f"},
	{1 << 28, "\x80\x80\x80\x80\x01"},
	{1<<35 - 1, "\xff\xff\xff\xff\x7f"},
	{1 << 35, "\x80\x80\x80\x80\x80\x01"},
	{1<<42 - 1, "\xff\xff\xff\xff\xff\x7f"},
	{1 << 42, "\x80\x80\x80\x80\x80\x80\x01"},
	{1<<49 - 1, "\xff\xff\xff\xff\xff\xff\x7f"},
	{1 << 49, "\x80\x80\x80\x80\x80\x80\x80\x01"},
	{1<<56 - 1, "\xff\xff\xff\xff\xff\xff\xff\x7f"},
	{1 << 56, "\x80\x80\x80\x80\x80\x80\x80\x80\x01"},
	{1<<63 - 1, "\xff\xff\xff\xff\xff\xff\xff\xff\x7f"},
	{1 << 63, "\x80\x80\x80\x80\x80\x80\x80\x80\x80\x01"},
	{math.MaxUint64, "\xff\xff\xff\xff\xff\xff\xff\xff\xff\x01"},
}

// someNumbers are all small ones, and those around each power of two.
func someNumbers() []uint64 {
	l := []uint64{}
	for n := range uint64(1 << 15) {
		l = append(l, n)
	}
	for i := 15; i < 64; i++ {
		p := uint64(1) << i
		l = append(l, p-1, p, p+1, p|p>>3|p>>11, -p)
	}
	return append(l, math.MaxUint64)
}

func checkGet(t *testing.T, b string, at int, n uint64, next int, e api.Errno) {
	t.Helper()
	gotN, gotNext, gotE := Get(b, at)
	if gotN != n || gotNext != next || gotE != e {
		t.Errorf("Get(% x, %d): %d, %d, %d, not %d, %d, %d", b, at, gotN, gotNext, gotE, n, next, e)
	}
}

// P1.1
func TestPutTellsTheBytes(t *testing.T) {
	for _, x := range spellings {
		if got := Put(x.n); got != x.b {
			t.Errorf("Put(%d): % x, not % x", x.n, got, x.b)
		}
	}
}

// P1.1
func TestSizeTellsHowManyBytes(t *testing.T) {
	for _, x := range spellings {
		if got := Size(x.n); got != len(x.b) {
			t.Errorf("Size(%d): %d, not %d", x.n, got, len(x.b))
		}
	}
	for _, n := range someNumbers() {
		if got := Size(n); got != len(Put(n)) {
			t.Errorf("Size(%d): %d, not %d", n, got, len(Put(n)))
		}
	}
}

// P1.2
func TestGetTellsNumberAndPlaceBehind(t *testing.T) {
	for _, x := range spellings {
		checkGet(t, x.b, 0, x.n, len(x.b), api.OK)
		// What stands before and behind a number is none of its bytes.
		for _, front := range []string{"", "\x00", "\xff", "\x80\x80\x80"} {
			for _, behind := range []string{"", "\x00", "\x01", "\x80", "\xff\xff"} {
				checkGet(t, front+x.b+behind, len(front), x.n, len(front)+len(x.b), api.OK)
			}
		}
	}
}

// P1.2
func TestGetRefusesPlacesOutside(t *testing.T) {
	for _, b := range []string{"", "\x00", "\x80\x00", "\xac\x02"} {
		for _, at := range []int{math.MinInt, -2, -1, len(b) + 1, len(b) + 2, math.MaxInt} {
			checkGet(t, b, at, 0, 0, api.ErrArg)
		}
	}
}

// P1.2
func TestGetCut(t *testing.T) {
	checkGet(t, "", 0, 0, 0, api.ErrCut)
	checkGet(t, "\x05", 1, 0, 0, api.ErrCut)
	for _, x := range spellings {
		for i := range len(x.b) {
			checkGet(t, x.b[:i], 0, 0, 0, api.ErrCut)
			checkGet(t, "\x01"+x.b[:i], 1, 0, 0, api.ErrCut)
		}
	}
	// A byte of 80 isn't the last one, so what it says isn't long yet.
	for i := range 10 {
		checkGet(t, strings.Repeat("\x80", i), 0, 0, 0, api.ErrCut)
	}
}

// P1.2
func TestGetRefusesZeroAsLastByte(t *testing.T) {
	checkGet(t, "\x80\x00", 0, 0, 0, api.ErrLong)
	for i := 1; i < 12; i++ {
		for _, c := range []string{"\x80", "\x81", "\xff"} {
			checkGet(t, strings.Repeat(c, i)+"\x00", 0, 0, 0, api.ErrLong)
			checkGet(t, "\x07"+strings.Repeat(c, i)+"\x00\x01", 1, 0, 0, api.ErrLong)
		}
	}
	// The first byte of a number, not of the text, may be 0.
	checkGet(t, "\x80\x00", 1, 0, 2, api.OK)
}

// P1.2
func TestGetTenthByte(t *testing.T) {
	for _, x := range []struct {
		nine string
		n    uint64
	}{
		{strings.Repeat("\x80", 9), 1 << 63},
		{strings.Repeat("\xff", 9), math.MaxUint64},
	} {
		for last := range 256 {
			for _, behind := range []string{"", "\x00", "\x01"} {
				b := x.nine + string([]byte{byte(last)}) + behind
				if last == 1 {
					checkGet(t, b, 0, x.n, 10, api.OK)
				} else {
					checkGet(t, b, 0, 0, 0, api.ErrLong)
				}
			}
		}
	}
}

// P1.3
func TestZigAndZag(t *testing.T) {
	for _, x := range []struct {
		n int64
		u uint64
	}{
		{0, 0}, {-1, 1}, {1, 2}, {-2, 3}, {2, 4}, {-3, 5}, {150, 300}, {-150, 299},
		{1<<31 - 1, 1<<32 - 2}, {1 << 31, 1 << 32}, {-1 << 31, 1<<32 - 1},
		{1<<62 - 1, 1<<63 - 2}, {1 << 62, 1 << 63}, {-1 << 62, 1<<63 - 1}, {-1<<62 - 1, 1<<63 + 1},
		{math.MaxInt64, math.MaxUint64 - 1}, {math.MinInt64 + 1, math.MaxUint64 - 2}, {math.MinInt64, math.MaxUint64},
	} {
		if got := Zig(x.n); got != x.u {
			t.Errorf("Zig(%d): %d, not %d", x.n, got, x.u)
		}
		if got := Zag(x.u); got != x.n {
			t.Errorf("Zag(%d): %d, not %d", x.u, got, x.n)
		}
	}
}

// P1.3
func TestZagIsZigTheOtherWayRound(t *testing.T) {
	for _, u := range someNumbers() {
		if got := Zig(Zag(u)); got != u {
			t.Errorf("Zig(Zag(%d)): %d", u, got)
		}
		n := int64(u)
		if got := Zag(Zig(n)); got != n {
			t.Errorf("Zag(Zig(%d)): %d", n, got)
		}
	}
}

// P1.4
func TestWhatIsPutIsGot(t *testing.T) {
	for _, n := range someNumbers() {
		b := Put(n)
		checkGet(t, b, 0, n, len(b), api.OK)
	}
}

// checkPutAgain wants what is got at the front of b to be put as it was.
func checkPutAgain(t *testing.T, b string) {
	t.Helper()
	n, next, e := Get(b, 0)
	if e == api.OK && Put(n) != b[:next] {
		t.Errorf("% x: got %d, put as % x", b[:next], n, Put(n))
	}
}

// P1.4
func TestWhatIsGotIsPutAsItWas(t *testing.T) {
	for i := range 1 << 16 {
		two := string([]byte{byte(i >> 8), byte(i)})
		checkPutAgain(t, two)
		// The same ends behind longer fronts, up to one byte too many.
		for front := 1; front < 10; front++ {
			checkPutAgain(t, strings.Repeat("\x80", front)+two)
			checkPutAgain(t, strings.Repeat("\xd5", front)+two)
		}
	}
}

// P1.4
func TestNoNumberBeginsAnother(t *testing.T) {
	numbers := map[string]uint64{}
	for _, n := range someNumbers() {
		numbers[Put(n)] = n
	}
	for b, n := range numbers {
		for i := range len(b) {
			if other, ok := numbers[b[:i]]; ok {
				t.Errorf("the bytes of %d begin those of %d", other, n)
			}
		}
	}
}

// P1.2, P1.4: whatever the bytes are, there is an error alone, or a number that is put as it was.
func FuzzGet(f *testing.F) {
	for _, x := range spellings {
		f.Add(x.b, 0)
	}
	f.Add("\x80\x00", 0)
	f.Add("", -1)
	f.Fuzz(func(t *testing.T, b string, at int) {
		n, next, e := Get(b, at)
		if e != api.OK && (n != 0 || next != 0) {
			t.Errorf("Get(% x, %d): %d, %d beside %d", b, at, n, next, e)
		}
		if e == api.OK && Put(n) != b[at:next] {
			t.Errorf("Get(% x, %d): %d, put as % x", b, at, n, Put(n))
		}
	})
}
