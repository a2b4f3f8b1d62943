package record

import (
	"fmt"
	"math"
	"math/rand"
	"runtime"
	"slices"
	"strings"
	"testing"
	"unicode/utf8"

	"diorama/api"
	"diorama/cursor"
	"diorama/strtab"
	"diorama/varint"
)

// most is 2^24, the greatest of the numbers that are read by the chapter's words.
const most = 16777216

// mostBytes and aboveBytes are the bytes of the greatest number that is read, and of the next one.
var (
	mostBytes  = varint.Put(most)
	aboveBytes = varint.Put(most + 1)
)

// row is what a kind has, by the table of chapter 7.
type row struct {
	ints        string // a letter a number: i any, f fixed, s size, b byte, o bool
	texts       int
	least, most int
}

// rows are the kinds of version 2, from kind 1 on.
func rows() []row {
	return []row{{}, {"", 1, 0, -1}, {"fff", 0, 1, 1}, {"sss", 1, 0, 0}, {"s", 1, 0, 0}, {"s", 2, 0, 0}, {"i", 0, 0, -1}, {"bbbo", 0, 0, 0}, {"fff", 0, 1, 1}}
}

// ends are the least and the greatest number of a class, by the words of chapter 7.
func ends(class byte) (int64, int64) {
	switch class {
	case 'f':
		return -1 << 47, 1 << 47
	case 's':
		return 0, 1 << 47
	case 'b':
		return 0, 255
	case 'o':
		return 0, 1
	}
	return math.MinInt64, math.MaxInt64
}

func inClass(class byte, n int64) bool {
	low, high := ends(class)
	return low <= n && n <= high
}

func (r row) letsKids(count int) bool {
	return count >= r.least && (r.most < 0 || count <= r.most)
}

// table has these texts, from number 0 on.
func table(l ...string) *strtab.Table {
	t := strtab.New()
	for _, s := range l {
		t.Intern(s)
	}
	return t
}

// texts are those of a table, by their numbers.
func texts(t *strtab.Table) []string {
	var l []string
	for i := range t.Len() {
		s, _ := t.At(i)
		l = append(l, s)
	}
	return l
}

func same(a, b api.Node) bool {
	return a.Kind == b.Kind && slices.Equal(a.Ints, b.Ints) && slices.Equal(a.Texts, b.Texts) && slices.Equal(a.Kids, b.Kids)
}

func group(name string, kids ...int) api.Node {
	return api.Node{Kind: api.KGroup, Texts: []string{name}, Kids: kids}
}

func move(x, y, z int64, kids ...int) api.Node {
	return api.Node{Kind: api.KMove, Ints: []int64{x, y, z}, Kids: kids}
}

func box(w, h, d int64, material string) api.Node {
	return api.Node{Kind: api.KBox, Ints: []int64{w, h, d}, Texts: []string{material}}
}

func ball(r int64, material string) api.Node {
	return api.Node{Kind: api.KBall, Ints: []int64{r}, Texts: []string{material}}
}

func label(size int64, text, font string) api.Node {
	return api.Node{Kind: api.KLabel, Ints: []int64{size}, Texts: []string{text, font}}
}

func choice(which int64, kids ...int) api.Node {
	return api.Node{Kind: api.KSwitch, Ints: []int64{which}, Kids: kids}
}

func light(l ...int64) api.Node { return api.Node{Kind: api.KLight, Ints: l} }

func scale(x, y, z int64, kids ...int) api.Node {
	return api.Node{Kind: api.KScale, Ints: []int64{x, y, z}, Kids: kids}
}

// spelling is a node, at a place, and its record with a table of "a", "b", "".
type spelling struct {
	n  api.Node
	at int
	b  string
}

func spelt() *strtab.Table { return table("a", "b", "") }

// spellings are nodes of each kind, at the edges of what they may have.
func spellings() []spelling {
	widest := varint.Put(1 << 48)   // of 2^47
	lowest := varint.Put(1<<48 - 1) // of -2^47
	greatest := "\xfe" + strings.Repeat("\xff", 8) + "\x01"
	least := strings.Repeat("\xff", 9) + "\x01"
	return []spelling{
		{group("a", 1, 1, 0), 2, "\x01\x00\x03\x01\x01\x02"},
		{group(""), 0, "\x01\x02\x00"},
		{group("b"), 7, "\x01\x01\x00"},
		{group("b", 6, 0, 6), 7, "\x01\x01\x03\x01\x07\x01"},
		{group("a", 172, 0), 300, "\x01\x00\x02\x80\x01\xac\x02"},
		{group("a", 0, 1), most, "\x01\x00\x02" + mostBytes + varint.Put(most-1)},
		{group("a", make([]int, 200)...), 1, "\x01\x00\xc8\x01" + strings.Repeat("\x01", 200)},
		{move(-1, 0, 65536, 0), 3, "\x02\x01\x00\x80\x80\x08\x01\x03"},
		{move(1<<47, -1<<47, 0, 2), 3, "\x02" + widest + lowest + "\x00\x01\x01"},
		{box(0, 1, 1<<47, "b"), 0, "\x03\x00\x02" + widest + "\x01\x00"},
		{box(64, 63, 0, ""), 0, "\x03\x80\x01\x7e\x00\x02\x00"},
		{ball(1, "a"), 0, "\x04\x02\x00\x00"},
		{ball(0, "b"), math.MaxInt, "\x04\x00\x01\x00"},
		{ball(0, "b"), -1, "\x04\x00\x01\x00"},
		{label(0, "b", "a"), 0, "\x05\x00\x01\x00\x00"},
		{label(150, "a", "a"), 0, "\x05\xac\x02\x00\x00\x00"},
		{label(1<<47, "", "b"), 0, "\x05" + widest + "\x02\x01\x00"},
		{choice(math.MaxInt64, 0), 1, "\x06" + greatest + "\x01\x01"},
		{choice(math.MinInt64), 0, "\x06" + least + "\x00"},
		{choice(-2, 3, 1, 4, 1, 5), 9, "\x06\x03\x05\x06\x08\x05\x08\x04"},
		{light(1, 2, 255, 1), 0, "\x07\x02\x04\xfe\x03\x02\x00"},
		{light(0, 0, 0, 0), 5, "\x07\x00\x00\x00\x00\x00"},
		{scale(65536, -65536, 1, 4), 5, "\x08\x80\x80\x08\xff\xff\x07\x02\x01\x01"},
		{scale(-1<<47, 1<<47, 0, 0), 1, "\x08" + lowest + widest + "\x00\x01\x01"},
	}
}

// roomy is a list with two marks in the spare room behind it.
func roomy[T any](l []T, m T) []T {
	return append(append(make([]T, 0, len(l)+2), l...), m, m)[:len(l)]
}

// markedRoom tells whether a list has still its marks behind it.
func markedRoom[T comparable](l []T, m T) bool {
	return slices.Equal(l[len(l):cap(l)][:2], []T{m, m})
}

// checkPut wants Put to tell b and e, the table to have these texts then, and the node to stay as it is, its spare room too.
func checkPut(t *testing.T, n api.Node, at int, x *strtab.Table, b string, e api.Errno, after ...string) {
	t.Helper()
	in := api.Node{Kind: n.Kind, Ints: roomy(n.Ints, 77), Texts: roomy(n.Texts, "mark"), Kids: roomy(n.Kids, 77)}
	gotB, gotE := Put(in, at, x)
	if gotB != b || gotE != e {
		t.Errorf("Put(%.300v, %d): %.300x, %d, not %.300x, %d", n, at, gotB, gotE, b, e)
	}
	if got := texts(x); !slices.Equal(got, after) {
		t.Errorf("Put(%.300v, %d): the table is %.300q then, not %.300q", n, at, got, after)
	}
	if !same(in, n) || !markedRoom(in.Ints, 77) || !markedRoom(in.Texts, "mark") || !markedRoom(in.Kids, 77) {
		t.Errorf("Put: what was handed in became %.300v, from %.300v", in, n)
	}
}

// checkRefused wants Put to tell e, and to intern nothing.
func checkRefused(t *testing.T, n api.Node, at int, e api.Errno) {
	t.Helper()
	checkPut(t, n, at, strtab.New(), "", e)
	checkPut(t, n, at, table("x", "a"), "", e, "x", "a")
}

// checkGet wants Get to tell n, and the cursor to have e and so many bytes left, whatever stands ahead of and behind b; the table stays as it is.
func checkGet(t *testing.T, b string, at int, x *strtab.Table, edges int, n api.Node, left int, e api.Errno) {
	t.Helper()
	before := texts(x)
	for _, front := range []string{"", "\x00", "\xff\x01\x07"} {
		c := cursor.New(front + b)
		c.Bytes(len(front))
		got := Get(c, at, x, edges)
		if !same(got, n) || c.Left() != left || c.Err() != e {
			t.Errorf("Get(%.300x, %d, %d): %.300v, Left %d, Err %d, not %.300v, %d, %d", b, at, edges, got, c.Left(), c.Err(), n, left, e)
		}
	}
	if !slices.Equal(texts(x), before) {
		t.Errorf("Get(%.300x): the table became %.300q, from %.300q", b, texts(x), before)
	}
}

// checkWrong wants Get to refuse the bytes, with so many left, by the table of "a", "b", "", with nine edges.
func checkWrong(t *testing.T, b string, at int, left int, e api.Errno) {
	t.Helper()
	checkGet(t, b, at, spelt(), 9, api.Node{}, left, e)
}

// P13.1
func TestPutTellsTheRecord(t *testing.T) {
	for _, x := range spellings() {
		checkPut(t, x.n, x.at, spelt(), x.b, api.OK, "a", "b", "")
	}
}

// P13.1: texts are interned, in order, behind those that are there already.
func TestPutInterns(t *testing.T) {
	x := strtab.New()
	checkPut(t, light(0, 0, 0, 0), 0, x, "\x07\x00\x00\x00\x00\x00", api.OK)
	checkPut(t, label(0, "b", "a"), 0, x, "\x05\x00\x00\x01\x00", api.OK, "b", "a")
	checkPut(t, label(0, "a", "b"), 0, x, "\x05\x00\x01\x00\x00", api.OK, "b", "a")
	checkPut(t, label(0, "c", "c"), 0, x, "\x05\x00\x02\x02\x00", api.OK, "b", "a", "c")
	checkPut(t, label(0, "a", ""), 0, x, "\x05\x00\x01\x03\x00", api.OK, "b", "a", "c", "")
	checkPut(t, group("\u20ac", 0), 1, x, "\x01\x04\x01\x01", api.OK, "b", "a", "c", "", "\u20ac")
	checkPut(t, ball(0, "c"), 0, x, "\x04\x00\x02\x00", api.OK, "b", "a", "c", "", "\u20ac")
	checkPut(t, label(0, "\U0010ffff", "c"), 0, x, "\x05\x00\x05\x02\x00", api.OK, "b", "a", "c", "", "\u20ac", "\U0010ffff")
}

// P13.1: numbers of texts that take more than a byte.
func TestPutOfGreatTables(t *testing.T) {
	x := strtab.New()
	for i := range 300 {
		x.Intern(fmt.Sprint(i))
	}
	if b, e := Put(label(0, "128", "new"), 0, x); b != "\x05\x00\x80\x01\xac\x02\x00" || e != api.OK {
		t.Errorf("Put: %x, %d", b, e)
	}
	checkGet(t, "\x05\x00\x80\x01\xac\x02\x00", 0, x, 0, label(0, "128", "new"), 0, api.OK)
}

// P13.1
func TestPutRefusesKinds(t *testing.T) {
	for _, kind := range []int{0, -1, 9, 10, 257, 1<<32 + 1, math.MinInt, math.MaxInt} {
		checkRefused(t, api.Node{Kind: kind}, 0, api.ErrKind)
		checkRefused(t, api.Node{Kind: kind, Ints: []int64{1}, Texts: []string{"b"}, Kids: []int{0}}, 1, api.ErrKind)
	}
}

// P13.1: of each kind one number, text and kid more or less than it has, and numbers outside of their classes.
func TestPutRefusesFields(t *testing.T) {
	for kind, r := range rows() {
		if kind == 0 {
			continue
		}
		right := api.Node{Kind: kind, Ints: make([]int64, len(r.ints)), Texts: make([]string, r.texts), Kids: make([]int, r.least)}
		if _, e := Put(right, 1, strtab.New()); e != api.OK {
			t.Errorf("kind %d: %d", kind, e)
		}
		refuse := func(e api.Errno, change func(n *api.Node)) {
			t.Helper()
			n := api.Node{Kind: kind, Ints: slices.Clone(right.Ints), Texts: slices.Clone(right.Texts), Kids: slices.Clone(right.Kids)}
			change(&n)
			checkRefused(t, n, 1, e)
		}
		refuse(api.ErrField, func(n *api.Node) { n.Ints = append(n.Ints, 0) })
		refuse(api.ErrText, func(n *api.Node) { n.Texts = append(n.Texts, "") })
		for i := range r.ints {
			low, high := ends(r.ints[i])
			refuse(api.ErrField, func(n *api.Node) { n.Ints = n.Ints[1:] })
			if r.ints[i] != 'i' {
				refuse(api.ErrField, func(n *api.Node) { n.Ints[i] = low - 1 })
				refuse(api.ErrField, func(n *api.Node) { n.Ints[i] = high + 1 })
			}
		}
		for i := range r.texts {
			refuse(api.ErrText, func(n *api.Node) { n.Texts = n.Texts[1:] })
			refuse(api.ErrText, func(n *api.Node) { n.Texts[i] = "a\xc3" })
		}
		if r.least > 0 {
			refuse(api.ErrKids, func(n *api.Node) { n.Kids = nil })
		}
		if r.most >= 0 {
			refuse(api.ErrKids, func(n *api.Node) { n.Kids = make([]int, r.most+1) })
		}
	}
}

// P13.1: a kid stands from 0 to the place ahead.
func TestPutRefusesKids(t *testing.T) {
	for _, at := range []int{math.MinInt, math.MinInt + 1, -1, 0, 1, 2, 300, math.MaxInt} {
		for _, kid := range []int{math.MinInt, -1, 0, 1, 2, 299, 300, 301, math.MaxInt - 1, math.MaxInt} {
			if kid >= 0 && kid < at {
				checkPut(t, move(0, 0, 0, kid), at, strtab.New(), "\x02\x00\x00\x00\x01"+varint.Put(uint64(at-kid)), api.OK)
				continue
			}
			checkRefused(t, move(0, 0, 0, kid), at, api.ErrRef)
			checkRefused(t, scale(0, 0, 0, kid), at, api.ErrRef)
			checkRefused(t, group("new", kid), at, api.ErrRef)
			checkRefused(t, choice(0, kid, kid), at, api.ErrRef)
			checkRefused(t, group("new", 0, 1, kid), at, api.ErrRef)
		}
	}
}

// P13.1: of several errors the one that is named first.
func TestPutOfSeveralErrors(t *testing.T) {
	checkRefused(t, api.Node{Kind: 9, Ints: []int64{-1}, Texts: []string{"\xff"}, Kids: []int{9}}, 0, api.ErrKind)
	checkRefused(t, api.Node{Kind: api.KBall, Ints: []int64{-1}, Texts: []string{"\xff"}, Kids: []int{9}}, 0, api.ErrField)
	checkRefused(t, api.Node{Kind: api.KBall, Ints: []int64{1}, Texts: []string{"\xff"}, Kids: []int{9}}, 0, api.ErrText)
	checkRefused(t, api.Node{Kind: api.KBall, Ints: []int64{1}, Texts: []string{"b"}, Kids: []int{9}}, 0, api.ErrKids)
	checkRefused(t, group("\xff", 9), 0, api.ErrText)
	checkRefused(t, group("b", 9), 0, api.ErrRef)
	checkRefused(t, label(1, "good", "\xff"), 0, api.ErrText)
}

// P13.2
func TestGetTellsTheNode(t *testing.T) {
	for _, x := range spellings() {
		for _, behind := range []string{"", "\x00", "\xff\xff"} {
			for _, edges := range []int{len(x.n.Kids), len(x.n.Kids) + 1, most, math.MaxInt} {
				checkGet(t, x.b+behind, x.at, spelt(), edges, x.n, len(behind), api.OK)
			}
		}
	}
}

// P13.2: cut off, before each number it goes no further.
func TestGetOfCutRecords(t *testing.T) {
	for _, x := range spellings() {
		for i := range len(x.b) {
			// What is left is the number whose bytes aren't all there.
			left, at := 0, 0
			for at < i {
				_, next, e := varint.Get(x.b[:i], at)
				if e != api.OK {
					left = i - at
					break
				}
				at = next
			}
			checkGet(t, x.b[:i], x.at, spelt(), most, api.Node{}, left, api.ErrCut)
		}
	}
}

// P13.2
func TestGetRefusesKinds(t *testing.T) {
	for _, kind := range []uint64{0, 9, 10, 127, 128, 257, most} {
		for _, behind := range []string{"", "\x00", "\x00\x00\x00\x00\x00", "\x80\x00"} {
			checkWrong(t, varint.Put(kind)+behind, 3, len(behind), api.ErrKind)
		}
	}
	checkWrong(t, aboveBytes+"\x00", 3, 5, api.ErrLimit)
	checkWrong(t, varint.Put(1<<32+1), 3, 5, api.ErrLimit)
	checkWrong(t, varint.Put(math.MaxUint64), 3, 10, api.ErrLimit)
	checkWrong(t, "\x81\x00\x00\x00", 3, 4, api.ErrLong)
	checkWrong(t, "", 3, 0, api.ErrCut)
	checkWrong(t, "\x81", 3, 1, api.ErrCut)
}

// P13.2: each number, at both ends of its class, and outside; behind a wrong one nothing is read.
func TestGetRefusesNumbers(t *testing.T) {
	for kind, r := range rows() {
		for i := range r.ints {
			front := string([]byte{byte(kind)}) + strings.Repeat("\x00", i)
			behind := strings.Repeat("\x00", len(r.ints)-1-i+r.texts)
			behind += string([]byte{byte(r.least)}) + strings.Repeat("\x01", r.least)
			low, high := ends(r.ints[i])
			for _, n := range []int64{low, high, low - 1, high + 1, math.MinInt64, math.MaxInt64} {
				b := front + varint.Put(varint.Zig(n))
				if !inClass(r.ints[i], n) {
					checkWrong(t, b+behind, 3, len(behind), api.ErrField)
					checkWrong(t, b, 3, 0, api.ErrField)
					checkWrong(t, b+"\x80\x00", 3, 2, api.ErrField)
					continue
				}
				want := api.Node{Kind: kind, Ints: make([]int64, len(r.ints)), Texts: slices.Repeat([]string{"a"}, r.texts), Kids: slices.Repeat([]int{2}, r.least)}
				want.Ints[i] = n
				checkGet(t, b+behind, 3, spelt(), 9, want, 0, api.OK)
			}
			checkWrong(t, front+"\x80\x00"+behind, 3, 2+len(behind), api.ErrLong)
			checkWrong(t, front+strings.Repeat("\xff", 9)+"\x02"+behind, 3, 10+len(behind), api.ErrLong)
			checkWrong(t, front+strings.Repeat("\xff", 9), 3, 9, api.ErrCut)
		}
	}
}

// P13.2
func TestGetRefusesTexts(t *testing.T) {
	for _, x := range []struct {
		b    string
		left int
		e    api.Errno
	}{
		{"\x03", 0, api.ErrRef},
		{"\x7f", 0, api.ErrRef},
		{mostBytes, 0, api.ErrRef},
		{aboveBytes, 4, api.ErrLimit},
		{varint.Put(1 << 32), 5, api.ErrLimit},
		{"\x80\x00", 2, api.ErrLong},
	} {
		for _, behind := range []string{"", "\x00", "\x00\x00", "\x09"} {
			checkWrong(t, "\x01"+x.b+behind, 3, x.left+len(behind), x.e)
			checkWrong(t, "\x03\x00\x00\x00"+x.b+behind, 3, x.left+len(behind), x.e)
			checkWrong(t, "\x04\x00"+x.b+behind, 3, x.left+len(behind), x.e)
			checkWrong(t, "\x05\x00"+x.b+behind, 3, x.left+len(behind), x.e)
			checkWrong(t, "\x05\x00\x02"+x.b+behind, 3, x.left+len(behind), x.e)
		}
	}
	checkGet(t, "\x01\x00\x00", 3, strtab.New(), 9, api.Node{}, 1, api.ErrRef)
	checkGet(t, "\x01\x00\x00", 3, table("only"), 9, group("only"), 0, api.OK)
	checkGet(t, "\x05\x00\x00\x01\x00", 3, table("only"), 9, api.Node{}, 1, api.ErrRef)
	// That a text is UTF-8 is the table's affair.
	checkGet(t, "\x01\x00\x00", 3, table("\xff"), 9, group("\xff"), 0, api.OK)
}

// P13.2: how many kids there are, by the edges first, then by the kind.
func TestGetCountsKids(t *testing.T) {
	for _, kind := range []string{"\x02\x00\x00\x00", "\x08\x00\x00\x00"} {
		checkWrong(t, kind+"\x00", 3, 0, api.ErrKids)
		checkWrong(t, kind+"\x00\x01", 3, 1, api.ErrKids)
		checkWrong(t, kind+"\x02\x01\x01", 3, 2, api.ErrKids)
		checkWrong(t, kind+"\x02", 3, 0, api.ErrKids)
		checkWrong(t, kind+"\x0a\x01", 3, 2, api.ErrLimit)
		checkGet(t, kind+"\x01\x01", 3, spelt(), 0, api.Node{}, 2, api.ErrLimit)
		checkGet(t, kind+"\x00\x01", 3, spelt(), 0, api.Node{}, 1, api.ErrKids)
	}
	for _, kind := range []string{"\x03\x00\x00\x00\x00", "\x04\x00\x00", "\x05\x00\x00\x00", "\x07\x00\x00\x00\x00"} {
		checkWrong(t, kind+"\x01\x01", 3, 1, api.ErrKids)
		checkWrong(t, kind+"\x09", 3, 0, api.ErrKids)
		checkWrong(t, kind+"\x0a", 3, 1, api.ErrLimit)
		checkWrong(t, kind+"\x80\x00", 3, 2, api.ErrLong)
		checkGet(t, kind+"\x01\x01", 3, spelt(), 0, api.Node{}, 2, api.ErrLimit)
	}
}

// P13.2: as many edges as are handed in; below 0 counts as 0, and 2^24 is the most.
func TestGetOfEdges(t *testing.T) {
	for _, edges := range []int{math.MinInt, -1, 0} {
		checkGet(t, "\x01\x00\x00", 3, spelt(), edges, group("a"), 0, api.OK)
		checkGet(t, "\x01\x00\x01\x01", 3, spelt(), edges, api.Node{}, 2, api.ErrLimit)
		checkGet(t, "\x06\x00"+mostBytes, 3, spelt(), edges, api.Node{}, 4, api.ErrLimit)
	}
	checkGet(t, "\x01\x00\x02\x01\x01", 3, spelt(), 1, api.Node{}, 3, api.ErrLimit)
	checkGet(t, "\x01\x00\x02\x01\x01", 3, spelt(), 2, group("a", 2, 2), 0, api.OK)
	checkGet(t, "\x01\x00\x02\x01\x01", 3, spelt(), math.MaxInt, group("a", 2, 2), 0, api.OK)
	for _, edges := range []int{most, most + 1, math.MaxInt} {
		checkGet(t, "\x01\x00"+mostBytes+"\x01", 3, spelt(), edges, api.Node{}, 0, api.ErrCut)
		checkGet(t, "\x01\x00"+aboveBytes+"\x01", 3, spelt(), edges, api.Node{}, 5, api.ErrLimit)
		checkGet(t, "\x01\x00"+varint.Put(math.MaxUint64), 3, spelt(), edges, api.Node{}, 10, api.ErrLimit)
	}
	checkGet(t, "\x01\x00"+mostBytes, 3, spelt(), most-1, api.Node{}, 4, api.ErrLimit)
}

// P13.2: how far ahead a kid stands: from 1 to the place.
func TestGetRefusesKids(t *testing.T) {
	for _, at := range []int{math.MinInt, -1, 0, 1, 3, most - 1, most, most + 1, math.MaxInt} {
		for _, ahead := range []int{0, 1, 2, 3, 4, most - 1, most} {
			b := varint.Put(uint64(ahead))
			if ahead >= 1 && ahead <= at {
				checkGet(t, "\x02\x00\x00\x00\x01"+b, at, spelt(), 9, move(0, 0, 0, at-ahead), 0, api.OK)
				checkGet(t, "\x01\x00\x02\x01"+b, at, spelt(), 9, group("a", at-1, at-ahead), 0, api.OK)
				continue
			}
			checkWrong(t, "\x02\x00\x00\x00\x01"+b, at, 0, api.ErrRef)
			checkWrong(t, "\x08\x00\x00\x00\x01"+b+"\x01", at, 1, api.ErrRef)
			checkWrong(t, "\x01\x00\x02"+b+"\x01", at, 1, api.ErrRef)
			checkWrong(t, "\x06\x00\x03"+b+"\x80\x00", at, 2, api.ErrRef)
		}
		checkWrong(t, "\x01\x00\x02"+aboveBytes, at, 4, api.ErrLimit)
		checkWrong(t, "\x01\x00\x02\x80\x00", at, 2, api.ErrLong)
		checkWrong(t, "\x01\x00\x02", at, 0, api.ErrCut)
	}
	checkWrong(t, "\x01\x00\x03\x03\x04\x00", 3, 1, api.ErrRef)
	checkWrong(t, "\x01\x00\x03\x03\x01", 3, 0, api.ErrCut)
}

// P13.2: a cursor that has an error already keeps it, and stays.
func TestGetOfFailedCursors(t *testing.T) {
	for _, x := range spellings() {
		for e := api.ErrArg; e <= api.ErrOp; e++ {
			c := cursor.New(x.b)
			c.Fail(e)
			if n := Get(c, x.at, spelt(), most); !same(n, api.Node{}) || c.Err() != e || c.Left() != len(x.b) {
				t.Errorf("Get(%x): %v, Left %d, Err %d, not %d", x.b, n, c.Left(), c.Err(), e)
			}
		}
	}
	c := cursor.New("")
	c.Fail(api.ErrBase)
	if n := Get(c, 0, spelt(), 0); !same(n, api.Node{}) || c.Err() != api.ErrBase {
		t.Errorf("Get: %v, Err %d", n, c.Err())
	}
}

// P13.2: records one behind the other are read with one cursor; the first error ends it.
func TestGetOneBehindTheOther(t *testing.T) {
	c := cursor.New("\x04\x02\x00\x00" + "\x01\x01\x02\x01\x01" + "\x04\x01\x00\x00" + "\x04\x02\x00\x00")
	x := spelt()
	if n := Get(c, 0, x, 2); !same(n, ball(1, "a")) || c.Err() != api.OK {
		t.Errorf("first: %v, %d", n, c.Err())
	}
	if n := Get(c, 1, x, 2); !same(n, group("b", 0, 0)) || c.Err() != api.OK {
		t.Errorf("second: %v, %d", n, c.Err())
	}
	for range 3 {
		if n := Get(c, 2, x, 0); !same(n, api.Node{}) || c.Err() != api.ErrField || c.Left() != 6 {
			t.Errorf("third: %v, %d, Left %d", n, c.Err(), c.Left())
		}
	}
}

// P13.1, P13.2: what is answered is new memory, and the schema stays as it is whatever is done to it.
func TestGetAnswersNewMemory(t *testing.T) {
	for range 2 {
		for _, x := range spellings() {
			n, again := Get(cursor.New(x.b), x.at, spelt(), most), Get(cursor.New(x.b), x.at, spelt(), most)
			for i := range n.Ints[:cap(n.Ints)] {
				n.Ints[:cap(n.Ints)][i] = -99
			}
			for i := range n.Texts[:cap(n.Texts)] {
				n.Texts[:cap(n.Texts)][i] = "spoilt"
			}
			for i := range n.Kids[:cap(n.Kids)] {
				n.Kids[:cap(n.Kids)][i] = -99
			}
			if !same(again, x.n) {
				t.Errorf("%x: %v, not %v", x.b, again, x.n)
			}
		}
	}
}

// P13.2: a count that says more than there is takes no room.
func TestGetMakesNoRoomByACount(t *testing.T) {
	b, x := "\x01\x00"+mostBytes, spelt()
	var before, after runtime.MemStats
	runtime.ReadMemStats(&before)
	for range 100 {
		c := cursor.New(b)
		if n := Get(c, most, x, most); !same(n, api.Node{}) || c.Err() != api.ErrCut {
			t.Fatalf("%v, %d", n, c.Err())
		}
	}
	runtime.ReadMemStats(&after)
	if took := after.TotalAlloc - before.TotalAlloc; took > 1<<20 {
		t.Errorf("%d bytes of room", took)
	}
}

// plainPut is Put by the chapter's words, of a node of which nothing is wrong.
func plainPut(n api.Node, at int, l *[]string) string {
	b := varint.Put(uint64(n.Kind))
	for _, x := range n.Ints {
		b += varint.Put(varint.Zig(x))
	}
	for _, s := range n.Texts {
		if !slices.Contains(*l, s) {
			*l = append(*l, s)
		}
		b += varint.Put(uint64(slices.Index(*l, s)))
	}
	b += varint.Put(uint64(len(n.Kids)))
	for _, kid := range n.Kids {
		b += varint.Put(uint64(at) - uint64(kid))
	}
	return b
}

// plainCheck is what Put refuses, by the words of chapters 7, 8 and 13.
func plainCheck(n api.Node, at int) api.Errno {
	if n.Kind < 1 || n.Kind > 8 {
		return api.ErrKind
	}
	r := rows()[n.Kind]
	if len(n.Ints) != len(r.ints) {
		return api.ErrField
	}
	for i, x := range n.Ints {
		if !inClass(r.ints[i], x) {
			return api.ErrField
		}
	}
	switch {
	case len(n.Texts) != r.texts || slices.ContainsFunc(n.Texts, func(s string) bool { return !utf8.ValidString(s) }):
		return api.ErrText
	case !r.letsKids(len(n.Kids)):
		return api.ErrKids
	case slices.ContainsFunc(n.Kids, func(kid int) bool { return kid < 0 || kid >= at }):
		return api.ErrRef
	}
	return api.OK
}

// plainReader reads by the words of chapters 1 and 2.
type plainReader struct {
	b  string
	at int
	e  api.Errno
}

// number reads one, of at most so much, or stays where it is.
func (r *plainReader) number(most uint64) uint64 {
	if r.e != api.OK {
		return 0
	}
	n, next, e := varint.Get(r.b, r.at)
	if e == api.OK && n > most {
		e = api.ErrLimit
	}
	if e != api.OK {
		r.e = e
		return 0
	}
	r.at = next
	return n
}

// want fails, unless something is so.
func (r *plainReader) want(ok bool, e api.Errno) {
	if !ok && r.e == api.OK {
		r.e = e
	}
}

// plainGet is Get by the chapter's words: the node, how many bytes are left, and the error.
func plainGet(b string, at int, texts []string, edges int) (api.Node, int, api.Errno) {
	r := &plainReader{b: b}
	n := api.Node{Kind: int(r.number(1 << 24))}
	r.want(n.Kind >= 1 && n.Kind <= 8, api.ErrKind)
	if r.e != api.OK {
		return api.Node{}, len(b) - r.at, r.e
	}
	has := rows()[n.Kind]
	for i := range has.ints {
		x := varint.Zag(r.number(math.MaxUint64))
		r.want(inClass(has.ints[i], x), api.ErrField)
		n.Ints = append(n.Ints, x)
	}
	for range has.texts {
		x := int(r.number(1 << 24))
		r.want(x < len(texts), api.ErrRef)
		if r.e == api.OK {
			n.Texts = append(n.Texts, texts[x])
		}
	}
	count := r.number(uint64(min(max(edges, 0), 1<<24)))
	r.want(has.letsKids(int(count)), api.ErrKids)
	for i := uint64(0); i < count && r.e == api.OK; i++ {
		x := int(r.number(1 << 24))
		r.want(x >= 1 && x <= at, api.ErrRef)
		n.Kids = append(n.Kids, at-x)
	}
	if r.e != api.OK {
		n = api.Node{}
	}
	return n, len(b) - r.at, r.e
}

// checkBytes holds Get against the promises' words, and what is got against its bytes; it tells what is wrong with them.
func checkBytes(t *testing.T, b string, at int, l []string, edges int) api.Errno {
	t.Helper()
	n, left, e := plainGet(b, at, l, edges)
	checkGet(t, b, at, table(l...), edges, n, left, e)
	if e == api.OK {
		checkPut(t, n, at, table(l...), b[:len(b)-left], api.OK, l...)
	}
	return e
}

// checkNode holds Put against the promises' words, and what is put against its node; it tells what is wrong with it.
func checkNode(t *testing.T, n api.Node, at int, l []string) api.Errno {
	t.Helper()
	e := plainCheck(n, at)
	if e != api.OK {
		checkPut(t, n, at, table(l...), "", e, l...)
		return e
	}
	after := slices.Clone(l)
	b := plainPut(n, at, &after)
	checkPut(t, n, at, table(l...), b, api.OK, after...)
	for _, behind := range []string{"", "\x01", "\x80"} {
		checkGet(t, b+behind, at, table(after...), len(n.Kids), n, len(behind), api.OK)
	}
	if len(n.Kids) > 0 {
		checkGet(t, b, at, table(after...), len(n.Kids)-1, api.Node{}, varint.Size(uint64(len(n.Kids)))+kidBytes(n, at), api.ErrLimit)
	}
	return api.OK
}

// kidBytes is how many bytes a node's kids take in its record.
func kidBytes(n api.Node, at int) int {
	size := 0
	for _, kid := range n.Kids {
		size += varint.Size(uint64(at - kid))
	}
	return size
}

// P13.3: with nodes that are hand-made.
func TestConsequences(t *testing.T) {
	for _, x := range spellings() {
		checkNode(t, x.n, x.at, nil)
		checkNode(t, x.n, x.at, []string{"x", "b", "y"})
		checkBytes(t, x.b, x.at, texts(spelt()), most)
	}
	x := strtab.New()
	var all string
	for _, y := range spellings() {
		b, _ := Put(y.n, y.at, x)
		all += b
	}
	c, again := cursor.New(all), strtab.New()
	for _, y := range spellings() {
		n := Get(c, y.at, x, most)
		if !same(n, y.n) {
			t.Errorf("%x: %v, not %v", y.b, n, y.n)
		}
		// Into a table of its own they are put as they were, too, by the order of their texts.
		Put(n, y.at, again)
	}
	if c.Err() != api.OK || c.Left() != 0 || !slices.Equal(texts(x), texts(again)) {
		t.Errorf("Err %d, Left %d, %q, %q", c.Err(), c.Left(), texts(x), texts(again))
	}
}

// P13.2, P13.3: all short texts out of some bytes, behind each kind.
func TestAllShortTexts(t *testing.T) {
	met := map[api.Errno]int{}
	var grow func(b string, deep int)
	grow = func(b string, deep int) {
		met[checkBytes(t, b, 2, []string{"a", ""}, 3)]++
		if deep == 0 || t.Failed() {
			return
		}
		for _, c := range []string{"\x00", "\x01", "\x02", "\x03", "\x04", "\x80"} {
			grow(b+c, deep-1)
		}
	}
	for kind := range 11 {
		grow(string([]byte{byte(kind)}), 4)
		grow(string([]byte{byte(kind)})+"\x00\x00\x00", 4)
	}
	for _, e := range []api.Errno{api.OK, api.ErrCut, api.ErrLong, api.ErrKind, api.ErrField, api.ErrRef, api.ErrKids, api.ErrLimit} {
		if met[e] == 0 {
			t.Errorf("no text of %d", e)
		}
	}
}

// source makes nodes that are often right, and bytes that are often a record.
type source struct{ next func(n int) int }

func (r source) text() string {
	return []string{"", "a", "b", "ab", "\u20ac", "e\u0301", "\x00", "\U0010ffff"}[r.next(8)]
}

// number is one of a class, often at its ends.
func (r source) number(class byte) int64 {
	low, high := ends(class)
	switch r.next(4) {
	case 0:
		return low
	case 1:
		return high
	case 2:
		return int64(r.next(2))
	}
	return low/2 + high/2 + int64(r.next(100))*(high/200)
}

// node is one at a place, of which nothing is wrong.
func (r source) node(at int) api.Node {
	kind := 1 + r.next(8)
	has := rows()[kind]
	if at < has.least {
		kind, has = api.KGroup, rows()[api.KGroup]
	}
	n := api.Node{Kind: kind}
	for i := range has.ints {
		n.Ints = append(n.Ints, r.number(has.ints[i]))
	}
	for range has.texts {
		n.Texts = append(n.Texts, r.text())
	}
	count := has.least
	if has.most < 0 && at > 0 {
		count = r.next(6)
	}
	for range count {
		n.Kids = append(n.Kids, []int{0, at - 1, r.next(at)}[r.next(3)])
	}
	return n
}

// breakIt makes something wrong with a node, mostly.
func (r source) breakIt(n *api.Node, at int) {
	switch r.next(8) {
	case 0:
		n.Kind = r.next(11) - 1
	case 1:
		n.Ints = append(n.Ints, 0)
	case 2:
		n.Ints = slices.Repeat([]int64{-1 << 50}, len(n.Ints))
	case 3:
		n.Texts = append(n.Texts, "more")
	case 4:
		n.Texts = slices.Repeat([]string{"\xc3"}, len(n.Texts))
	case 5:
		n.Kids = append(n.Kids, r.next(at+2)-1)
	case 6:
		n.Kids = slices.Repeat([]int{at}, len(n.Kids))
	default:
		n.Kids = nil
	}
}

// breakBytes makes something wrong with a record, mostly.
func (r source) breakBytes(b string) string {
	at := r.next(len(b) + 1)
	switch r.next(4) {
	case 0:
		return b[:at]
	case 1:
		return b[:at] + []string{"\x00", "\x80", "\xff", mostBytes, aboveBytes}[r.next(5)] + b[at:]
	case 2:
		return b[:at] + b[min(at+1, len(b)):]
	}
	return b[:at] + string([]byte{byte(r.next(256))}) + b[min(at+1, len(b)):]
}

// checkSource holds both calls against the promises' words, on what a source makes; it tells what they tell.
func checkSource(t *testing.T, r source) (api.Errno, api.Errno) {
	t.Helper()
	at := []int{0, 1, 2, 7, 300, most}[r.next(6)]
	n := r.node(at)
	var l []string
	for range r.next(4) {
		if s := r.text(); !slices.Contains(l, s) {
			l = append(l, s)
		}
	}
	if e := checkNode(t, n, at, l); e != api.OK {
		t.Errorf("%v at %d: %d", n, at, e)
	}
	after := slices.Clone(l)
	b := plainPut(n, at, &after)
	for range r.next(3) {
		b = r.breakBytes(b)
	}
	got := checkBytes(t, b, at-r.next(2), after[:len(after)-min(r.next(2), len(after))], len(n.Kids)+r.next(4)-1)
	r.breakIt(&n, at)
	return checkNode(t, n, at, l), got
}

// P13.1 to P13.3
func TestManyRecords(t *testing.T) {
	r := source{rand.New(rand.NewSource(1)).Intn}
	put, got := map[api.Errno]int{}, map[api.Errno]int{}
	for range 30000 {
		p, g := checkSource(t, r)
		put[p]++
		got[g]++
		if t.Failed() {
			return
		}
	}
	for _, e := range []api.Errno{api.OK, api.ErrKind, api.ErrField, api.ErrText, api.ErrKids, api.ErrRef} {
		if put[e] < 50 {
			t.Errorf("only %d nodes of %d", put[e], e)
		}
	}
	for _, e := range []api.Errno{api.OK, api.ErrCut, api.ErrLong, api.ErrKind, api.ErrField, api.ErrRef, api.ErrKids, api.ErrLimit} {
		if got[e] < 50 {
			t.Errorf("only %d records of %d", got[e], e)
		}
	}
}

// P13.1 to P13.3: whatever nodes and records are made of these bytes.
func FuzzAll(f *testing.F) {
	f.Add([]byte{})
	f.Add([]byte("\x03\x00\x01\x00\x02\x01\x01\x00\x01\x02\x03\x01\x00\x02\x01\x05\x02\x01"))
	f.Add([]byte("\x04\x05\x03\x02\x01\x00\x03\x01\x05\x04\x02\x01\x00\x02\x01\x03\x02\x01\x01\x00\x05"))
	f.Fuzz(func(t *testing.T, b []byte) {
		at := 0
		checkSource(t, source{func(n int) int {
			at++
			if at > len(b) {
				return 0
			}
			return int(b[at-1]) % n
		}})
	})
}

// P13.2, P13.3: whatever the bytes are, there is an error alone, or a node that is put as it was.
func FuzzGet(f *testing.F) {
	for _, x := range spellings() {
		f.Add(x.b, x.at, 3, len(x.n.Kids))
	}
	f.Add("\x80\x00", -1, 0, -1)
	f.Fuzz(func(t *testing.T, b string, at, count, edges int) {
		checkBytes(t, b, at, []string{"a", "b", ""}[:min(max(count, 0), 3)], edges)
	})
}

// P13.1 to P13.3: very many kids.
func TestManyKids(t *testing.T) {
	const count = 1 << 18
	kids := make([]int, count)
	for i := range kids {
		kids[i] = i * 7 % count
	}
	n, x := group("many", kids...), strtab.New()
	b, e := Put(n, count, x)
	if e != api.OK || len(b) != 2+varint.Size(count)+kidBytes(n, count) {
		t.Errorf("%d, %d bytes", e, len(b))
	}
	c := cursor.New(b)
	if got := Get(c, count, x, count); !same(got, n) || c.Err() != api.OK || c.Left() != 0 {
		t.Errorf("Get: Err %d, Left %d", c.Err(), c.Left())
	}
	c = cursor.New(b)
	if got := Get(c, count-1, x, count); !same(got, api.Node{}) || c.Err() != api.ErrRef {
		t.Errorf("Get a place ahead: Err %d", c.Err())
	}
}
