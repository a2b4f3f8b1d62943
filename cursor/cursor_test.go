package cursor

import (
	"fmt"
	"math"
	"strings"
	"testing"

	"diorama/api"
	"diorama/varint"
)

// faults are all errors' numbers, and some that package api doesn't name.
func faults() []api.Errno {
	l := []api.Errno{-1, 22, math.MaxInt, math.MinInt}
	for e := api.ErrArg; e <= api.ErrOp; e++ {
		l = append(l, e)
	}
	return l
}

// reads are calls that read, of each kind; they tell whether the answer was zero.
var reads = []struct {
	name string
	call func(c *Cursor) bool
}{
	{"Byte", func(c *Cursor) bool { return c.Byte() == 0 }},
	{"Bytes(-1)", func(c *Cursor) bool { return c.Bytes(-1) == "" }},
	{"Bytes(0)", func(c *Cursor) bool { return c.Bytes(0) == "" }},
	{"Bytes(1)", func(c *Cursor) bool { return c.Bytes(1) == "" }},
	{"Bytes(99)", func(c *Cursor) bool { return c.Bytes(99) == "" }},
	{"Uint(0)", func(c *Cursor) bool { return c.Uint(0) == 0 }},
	{"Uint(99)", func(c *Cursor) bool { return c.Uint(99) == 0 }},
	{"Int", func(c *Cursor) bool { return c.Int() == 0 }},
	{"Text(-1)", func(c *Cursor) bool { return c.Text(-1) == "" }},
	{"Text(0)", func(c *Cursor) bool { return c.Text(0) == "" }},
	{"Text(99)", func(c *Cursor) bool { return c.Text(99) == "" }},
}

func checkAt(t *testing.T, what string, c *Cursor, left int, e api.Errno) {
	t.Helper()
	if c.Left() != left || c.Err() != e {
		t.Errorf("%s: Left %d, Err %d, not %d, %d", what, c.Left(), c.Err(), left, e)
	}
}

func checkUint(t *testing.T, b string, most uint64, n, left int, e api.Errno) {
	t.Helper()
	c := New(b)
	if got := c.Uint(most); got != n {
		t.Errorf("% x: Uint(%d): %d, not %d", b, most, got, n)
	}
	checkAt(t, fmt.Sprintf("% x: Uint(%d)", b, most), c, left, e)
}

func checkInt(t *testing.T, b string, n int64, left int, e api.Errno) {
	t.Helper()
	c := New(b)
	if got := c.Int(); got != n {
		t.Errorf("% x: Int: %d, not %d", b, got, n)
	}
	checkAt(t, fmt.Sprintf("% x: Int", b), c, left, e)
}

func checkText(t *testing.T, b string, most int, s string, left int, e api.Errno) {
	t.Helper()
	c := New(b)
	if got := c.Text(most); got != s {
		t.Errorf("% x: Text(%d): %q, not %q", b, most, got, s)
	}
	checkAt(t, fmt.Sprintf("% x: Text(%d)", b, most), c, left, e)
}

func checkBytes(t *testing.T, b string, n int, s string, left int, e api.Errno) {
	t.Helper()
	c := New(b)
	if got := c.Bytes(n); got != s {
		t.Errorf("% x: Bytes(%d): %q, not %q", b, n, got, s)
	}
	checkAt(t, fmt.Sprintf("% x: Bytes(%d)", b, n), c, left, e)
}

// P2.1
func TestNewIsAtTheFront(t *testing.T) {
	for _, b := range []string{"", "\x00", "a", "\x05ab", strings.Repeat("\xff", 1000)} {
		checkAt(t, "New", New(b), len(b), api.OK)
	}
}

// P2.1
func TestByte(t *testing.T) {
	c := New("\x00a\xff")
	for i, want := range []byte{0, 'a', 0xff} {
		if got := c.Byte(); got != want {
			t.Errorf("byte %d: %d, not %d", i, got, want)
		}
		checkAt(t, "Byte", c, 2-i, api.OK)
	}
	if got := c.Byte(); got != 0 {
		t.Errorf("behind the last byte: %d", got)
	}
	checkAt(t, "Byte behind the last one", c, 0, api.ErrCut)
}

// P2.1
func TestBytes(t *testing.T) {
	checkBytes(t, "", 0, "", 0, api.OK)
	checkBytes(t, "", 1, "", 0, api.ErrCut)
	checkBytes(t, "", -1, "", 0, api.ErrArg)
	checkBytes(t, "\x00b\xff", 0, "", 3, api.OK)
	checkBytes(t, "\x00b\xff", 1, "\x00", 2, api.OK)
	checkBytes(t, "\x00b\xff", 2, "\x00b", 1, api.OK)
	checkBytes(t, "\x00b\xff", 3, "\x00b\xff", 0, api.OK)
	checkBytes(t, "\x00b\xff", 4, "", 3, api.ErrCut)
	checkBytes(t, "\x00b\xff", math.MaxInt, "", 3, api.ErrCut)
	checkBytes(t, "\x00b\xff", -1, "", 3, api.ErrArg)
	checkBytes(t, "\x00b\xff", math.MinInt, "", 3, api.ErrArg)
}

// P2.1: so many that the place behind them would be beyond the greatest int.
func TestBytesBehindTheFront(t *testing.T) {
	for _, n := range []int{2, 3, math.MaxInt - 1, math.MaxInt} {
		c := New("abc")
		c.Bytes(2)
		if got := c.Bytes(n); got != "" {
			t.Errorf("Bytes(%d): %q", n, got)
		}
		checkAt(t, "Bytes", c, 1, api.ErrCut)
	}
}

// P2.1
func TestUint(t *testing.T) {
	checkUint(t, "\x00", 0, 0, 0, api.OK)
	checkUint(t, "\x07a", 7, 7, 1, api.OK)
	checkUint(t, "\x07a", 8, 7, 1, api.OK)
	checkUint(t, "\x07a", 6, 0, 2, api.ErrLimit)
	checkUint(t, "\x01", 0, 0, 1, api.ErrLimit)
	checkUint(t, "\xac\x02", 300, 300, 0, api.OK)
	checkUint(t, "\xac\x02", 299, 0, 2, api.ErrLimit)
}

// P2.1
func TestUintAboveMaxAll(t *testing.T) {
	greatest, above := varint.Put(api.MaxAll), varint.Put(api.MaxAll+1)
	for _, most := range []uint64{api.MaxAll, api.MaxAll + 1, 1 << 40, 1 << 63, math.MaxUint64} {
		checkUint(t, greatest, most, api.MaxAll, 0, api.OK)
		checkUint(t, above, most, 0, len(above), api.ErrLimit)
		for _, n := range []uint64{1 << 32, 1<<32 + 1, 1 << 63, math.MaxUint64} {
			b := varint.Put(n)
			checkUint(t, b, most, 0, len(b), api.ErrLimit)
		}
	}
	checkUint(t, greatest, api.MaxAll-1, 0, len(greatest), api.ErrLimit)
}

// wrongNumbers are bytes at whose front no number stands.
var wrongNumbers = []struct {
	b string
	e api.Errno
}{
	{"", api.ErrCut},
	{"\x80", api.ErrCut},
	{"\xff\xff", api.ErrCut},
	{"\x80\x00", api.ErrLong},
	{"\x85\x00ab", api.ErrLong},
	{strings.Repeat("\xff", 9), api.ErrCut},
	{strings.Repeat("\xff", 9) + "\x02", api.ErrLong},
	{strings.Repeat("\xff", 10) + "\x01", api.ErrLong},
}

// P2.1: what varint.Get refuses is told as it says, ahead of any limit.
func TestWrongNumbers(t *testing.T) {
	for _, x := range wrongNumbers {
		for _, most := range []uint64{0, 9, math.MaxUint64} {
			checkUint(t, x.b, most, 0, len(x.b), x.e)
		}
		checkInt(t, x.b, 0, len(x.b), x.e)
		for _, most := range []int{math.MinInt, -1, 0, 9, math.MaxInt} {
			checkText(t, x.b, most, "", len(x.b), x.e)
		}
	}
}

// P2.1
func TestInt(t *testing.T) {
	checkInt(t, "\x00a", 0, 1, api.OK)
	checkInt(t, "\x01a", -1, 1, api.OK)
	checkInt(t, "\xac\x02a", 150, 1, api.OK)
	for i := range 64 {
		for _, n := range []int64{1<<i - 1, 1 << i, -1 << i, -1<<i - 1} {
			checkInt(t, varint.Put(varint.Zig(n))+"ab", n, 2, api.OK)
		}
	}
}

// P2.1
func TestText(t *testing.T) {
	checkText(t, "\x00", 0, "", 0, api.OK)
	checkText(t, "\x00a", -3, "", 1, api.OK)
	checkText(t, "\x00a", math.MinInt, "", 1, api.OK)
	checkText(t, "\x01a", -1, "", 2, api.ErrLimit)
	checkText(t, "\x01a", math.MinInt, "", 2, api.ErrLimit)
	checkText(t, "\x01a", 0, "", 2, api.ErrLimit)
	checkText(t, "\x03abcd", 3, "abc", 1, api.OK)
	checkText(t, "\x03a\x00\xff", math.MaxInt, "a\x00\xff", 0, api.OK)
	checkText(t, "\x03abcd", 2, "", 5, api.ErrLimit)
}

// P2.1
func TestTextCutOff(t *testing.T) {
	checkText(t, "\x05ab", 9, "", 3, api.ErrCut)
	checkText(t, "\x01", 1, "", 1, api.ErrCut)
	checkText(t, "\xac\x02"+strings.Repeat("a", 299), 300, "", 301, api.ErrCut)
	// What the limit refuses is refused ahead of what is cut off.
	checkText(t, "\x05ab", 4, "", 3, api.ErrLimit)
}

// P2.1
func TestTextAboveMaxAll(t *testing.T) {
	greatest, above := varint.Put(api.MaxAll), varint.Put(api.MaxAll+1)
	checkText(t, greatest, math.MaxInt, "", len(greatest), api.ErrCut)
	checkText(t, above, math.MaxInt, "", len(above), api.ErrLimit)
	most := varint.Put(math.MaxUint64)
	checkText(t, most, math.MaxInt, "", len(most), api.ErrLimit)
	s := strings.Repeat("x", api.MaxAll)
	checkText(t, greatest+s+"y", api.MaxAll, s, 1, api.OK)
	checkText(t, above+s+"y", api.MaxAll+1, "", len(above)+len(s)+1, api.ErrLimit)
}

// P2.1
func TestFailKeepsTheFirst(t *testing.T) {
	for _, e := range faults() {
		c := New("\x01a")
		c.Fail(e)
		checkAt(t, "Fail", c, 2, e)
		for _, other := range append(faults(), api.OK) {
			c.Fail(other)
			checkAt(t, "Fail again", c, 2, e)
		}
	}
	c := New("")
	c.Byte()
	c.Fail(api.ErrOp)
	checkAt(t, "Fail behind an error", c, 0, api.ErrCut)
}

// P2.1
func TestFailWithOKStopsNothing(t *testing.T) {
	c := New("ab")
	c.Fail(api.OK)
	checkAt(t, "Fail(OK)", c, 2, api.OK)
	if got := c.Byte(); got != 'a' {
		t.Errorf("Byte behind Fail(OK): %d", got)
	}
	c.Fail(api.OK)
	c.Fail(api.ErrKind)
	checkAt(t, "Fail behind Fail(OK)", c, 1, api.ErrKind)
}

// checkStopped wants each call that reads to tell zero, and to change nothing.
func checkStopped(t *testing.T, why string, c *Cursor, left int, e api.Errno) {
	t.Helper()
	for range 2 {
		for _, r := range reads {
			if !r.call(c) {
				t.Errorf("%s: %s told something", why, r.name)
			}
			checkAt(t, why+": "+r.name, c, left, e)
		}
	}
}

// P2.2: once there is an error, whatever was its cause, nothing is read.
func TestNothingIsReadBehindAnError(t *testing.T) {
	for _, e := range faults() {
		for _, b := range []string{"", "\x01abc", "\x80\x00"} {
			c := New(b)
			c.Fail(e)
			checkStopped(t, "Fail", c, len(b), e)
		}
	}
	for _, x := range []struct {
		why, b string
		call   func(c *Cursor)
		e      api.Errno
	}{
		{"Bytes below 0", "\x01abc", func(c *Cursor) { c.Bytes(-1) }, api.ErrArg},
		{"Bytes cut off", "\x01abc", func(c *Cursor) { c.Bytes(5) }, api.ErrCut},
		{"Uint above most", "\x01abc", func(c *Cursor) { c.Uint(0) }, api.ErrLimit},
		{"Uint long", "\x80\x00\x01a", func(c *Cursor) { c.Uint(9) }, api.ErrLong},
		{"Int long", "\x80\x00\x01a", func(c *Cursor) { c.Int() }, api.ErrLong},
		{"Int cut off", "\xff", func(c *Cursor) { c.Int() }, api.ErrCut},
		{"Text above most", "\x01abc", func(c *Cursor) { c.Text(0) }, api.ErrLimit},
		{"Text cut off", "\x04abc", func(c *Cursor) { c.Text(9) }, api.ErrCut},
		{"Byte at the end", "", func(c *Cursor) { c.Byte() }, api.ErrCut},
	} {
		c := New(x.b)
		x.call(c)
		checkStopped(t, x.why, c, len(x.b), x.e)
	}
}

// P2.2: an error behind bytes that were read leaves the cursor where it had come to.
func TestLeftStaysWhereTheErrorWas(t *testing.T) {
	c := New("\x07\x03abcd")
	if n := c.Uint(7); n != 7 {
		t.Errorf("Uint: %d", n)
	}
	if s := c.Text(3); s != "abc" {
		t.Errorf("Text: %q", s)
	}
	if s := c.Bytes(2); s != "" {
		t.Errorf("Bytes: %q", s)
	}
	checkStopped(t, "Bytes cut off", c, 1, api.ErrCut)
}

// P2.3
func TestOneBehindTheOther(t *testing.T) {
	numbers := []int64{0, -1, 1, 63, -64, 64, 300, -1 << 40, math.MaxInt64, math.MinInt64}
	texts := []string{"", "a", "\x00\xff", strings.Repeat("ab", 100)}
	b := ""
	for _, n := range numbers {
		for _, s := range texts {
			b += "\xee" + varint.Put(varint.Zig(n)) + varint.Put(uint64(len(s))) + s + s + varint.Put(uint64(len(s)))
		}
	}
	c := New(b)
	for _, n := range numbers {
		for _, s := range texts {
			if c.Byte() != 0xee || c.Int() != n || c.Text(len(s)) != s || c.Bytes(len(s)) != s || c.Uint(uint64(len(s))) != len(s) {
				t.Fatalf("%d, %q: not read as they stand there; Left %d, Err %d", n, s, c.Left(), c.Err())
			}
		}
	}
	checkAt(t, "all", c, 0, api.OK)
}

// P2.3: cursors on the same bytes, and one cursor's answers, don't hang on each other.
func TestCursorsAreApart(t *testing.T) {
	b := "\x01a\x01b"
	one, other := New(b), New(b)
	one.Fail(api.ErrKind)
	if s := other.Text(1); s != "a" {
		t.Errorf("Text: %q", s)
	}
	if s := other.Text(1); s != "b" {
		t.Errorf("Text: %q", s)
	}
	checkAt(t, "the one that failed", one, 4, api.ErrKind)
	checkAt(t, "the other", other, 0, api.OK)
}

// The first error is kept as an error, and says by its text which one it is.
func TestFirstErrorIsAnError(t *testing.T) {
	c := New("")
	if c.first != nil {
		t.Errorf("at the front: %v", c.first)
	}
	c.Byte()
	if c.first == nil || c.first.Error() != "cursor: error 2" {
		t.Errorf("cut off: %v", c.first)
	}
}

// P2.1 to P2.3: whatever the bytes and the calls are, each one either goes behind what it tells, or tells nothing and goes nowhere.
func FuzzCursor(f *testing.F) {
	f.Add("\x05ab", "\x04", 9)
	f.Add("\x07\x03abcd", "\x02\x04\x01\x00", 3)
	f.Add("\x80\x00", "\x02\x03\x04", -1)
	f.Add("\xff\xff\xff\xff\xff\xff\xff\xff\xff\x01a", "\x03\x00\x05\x00", 1)
	f.Fuzz(func(t *testing.T, b, calls string, n int) {
		c := New(b)
		at, e := 0, api.OK
		for i := range len(calls) {
			told := ""
			switch calls[i] % 6 {
			case 0:
				told = string([]byte{c.Byte()})
			case 1:
				told = c.Bytes(n)
			case 2:
				told = varint.Put(uint64(c.Uint(uint64(n))))
			case 3:
				told = varint.Put(varint.Zig(c.Int()))
			case 4:
				s := c.Text(n)
				told = varint.Put(uint64(len(s))) + s
			case 5:
				c.Fail(api.Errno(n))
			}
			if e != api.OK && c.Err() != e || c.Err() != api.OK && c.Left() != len(b)-at {
				t.Fatalf("call %d: Err %d, Left %d behind %d, %d", i, c.Err(), c.Left(), e, len(b)-at)
			}
			if e = c.Err(); e != api.OK {
				if strings.Trim(told, "\x00") != "" {
					t.Fatalf("call %d: %q beside %d", i, told, e)
				}
				continue
			}
			next := at + len(told)
			if c.Left() != len(b)-next || b[at:next] != told {
				t.Fatalf("call %d: %q, Left %d, where %q stands", i, told, c.Left(), b[at:])
			}
			at = next
		}
	})
}
