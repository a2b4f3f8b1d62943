package nodes

import (
	"fmt"
	"math"
	"math/rand"
	"runtime"
	"slices"
	"strings"
	"testing"
	"unicode/utf8"

	"diorama/api"
	"diorama/canon"
	"diorama/limit"
	"diorama/varint"
)

// most is 2^24, the greatest number that a limit may be, and that is read, by the chapters' words.
const most = 16777216

// mostBytes and aboveBytes are the bytes of that number, and of the next one.
var (
	mostBytes  = varint.Put(most)
	aboveBytes = varint.Put(most + 1)
)

// widest are the greatest limits that may be.
func widest() api.Limits {
	return api.Limits{Bytes: most, Nodes: most, Edges: most, Depth: most, Text: most}
}

// parts are the five of limits, to be changed one by one.
func parts(l *api.Limits) []*int {
	return []*int{&l.Bytes, &l.Nodes, &l.Edges, &l.Depth, &l.Text}
}

// made is nodes, of which the last one is the root.
func made(nodes ...api.Node) api.Scene {
	return api.Scene{Nodes: nodes, Root: len(nodes) - 1}
}

func group(name string, kids ...int) api.Node {
	return api.Node{Kind: api.KGroup, Texts: []string{name}, Kids: kids}
}

func move(x, y, z int64, kids ...int) api.Node {
	return api.Node{Kind: api.KMove, Ints: []int64{x, y, z}, Kids: kids}
}

func box(w, h, d int64, material string) api.Node {
	return api.Node{Kind: api.KBox, Ints: []int64{w, h, d}, Texts: []string{material}}
}

func ball(r int64, material string) api.Node {
	return api.Node{Kind: api.KBall, Ints: []int64{r}, Texts: []string{material}}
}

func label(size int64, text, font string) api.Node {
	return api.Node{Kind: api.KLabel, Ints: []int64{size}, Texts: []string{text, font}}
}

func choice(which int64, kids ...int) api.Node {
	return api.Node{Kind: api.KSwitch, Ints: []int64{which}, Kids: kids}
}

func light(l ...int64) api.Node { return api.Node{Kind: api.KLight, Ints: l} }

func scale(x, y, z int64, kids ...int) api.Node {
	return api.Node{Kind: api.KScale, Ints: []int64{x, y, z}, Kids: kids}
}

func sameNode(a, b api.Node) bool {
	return a.Kind == b.Kind && slices.Equal(a.Ints, b.Ints) && slices.Equal(a.Texts, b.Texts) && slices.Equal(a.Kids, b.Kids)
}

func same(a, b api.Scene) bool {
	return a.Root == b.Root && slices.EqualFunc(a.Nodes, b.Nodes, sameNode)
}

// brief is a scene as far as a message has room for it.
func brief(s api.Scene) string {
	text := fmt.Sprint(s)
	return text[:min(len(text), 300)]
}

// spelling is a scene, and its bytes.
type spelling struct {
	s            api.Scene
	texts, nodes string
}

// spellings are canonical scenes with nodes of each kind, and what stands for them by the chapters' words.
func spellings() []spelling {
	return []spelling{
		{made(ball(1, "a")), "\x01\x01a", "\x01\x04\x02\x00\x00"},
		{made(light(0, 0, 0, 0)), "\x00", "\x01\x07\x00\x00\x00\x00\x00"},
		{made(group("")), "\x01\x00", "\x01\x01\x00\x00"},
		{made(choice(-1)), "\x00", "\x01\x06\x01\x00"},
		{made(label(0, "b", "a")), "\x02\x01b\x01a", "\x01\x05\x00\x00\x01\x00"},
		{made(label(0, "a", "a")), "\x01\x01a", "\x01\x05\x00\x00\x00\x00"},
		// Two boxes that are alike, and one of one box twice.
		{made(box(1, 2, 3, "oak"), box(1, 2, 3, "oak"), group("g", 0, 1)), "\x02\x03oak\x01g", "\x03\x03\x02\x04\x06\x00\x00\x03\x02\x04\x06\x00\x00\x01\x01\x02\x02\x01"},
		{made(box(1, 2, 3, "oak"), group("g", 0, 0)), "\x02\x03oak\x01g", "\x02\x03\x02\x04\x06\x00\x00\x01\x01\x02\x01\x01"},
		{made(ball(0, "a"), ball(0, "b"), choice(0, 0, 1)), "\x02\x01a\x01b", "\x03\x04\x00\x00\x00\x04\x00\x01\x00\x06\x00\x02\x02\x01"},
		{made(ball(0, "b"), ball(0, "a"), choice(0, 0, 1)), "\x02\x01b\x01a", "\x03\x04\x00\x00\x00\x04\x00\x01\x00\x06\x00\x02\x02\x01"},
		// A text has the number of its first use, whichever node has it again.
		{made(group("x"), label(2, "y", "x"), group("z", 0, 1), ball(0, "y"), group("x", 2, 3, 2)), "\x03\x01x\x01y\x01z",
			"\x05\x01\x00\x00\x05\x04\x01\x00\x00\x01\x02\x02\x02\x01\x04\x00\x01\x00\x01\x00\x03\x02\x01\x02"},
		// A way down of each kind that has one kid, and a node that is met on two of them.
		{made(light(1, 2, 255, 1), move(-1, 0, 65536, 0), scale(1, 1, 1, 1), choice(0, 0, 2)), "\x00",
			"\x04\x07\x02\x04\xfe\x03\x02\x00\x02\x01\x00\x80\x80\x08\x01\x01\x08\x02\x02\x02\x01\x01\x06\x00\x02\x03\x01"},
		{made(ball(1, "\u20ac"), group("e\u0301\x00", 0)), "\x02\x03\u20ac\x04e\u0301\x00", "\x02\x04\x02\x00\x00\x01\x01\x01\x01"},
		{long(200), "\x01\x00", "\xc9\x01" + strings.Repeat("\x07\x00\x00\x00\x00\x00", 200) + "\x01\x00\xc8\x01" + risingBytes(200)},
	}
}

// long is a group of so many lights.
func long(count int) api.Scene {
	var l []api.Node
	var kids []int
	for at := range count {
		l = append(l, light(0, 0, 0, 0))
		kids = append(kids, at)
	}
	return made(append(l, group("", kids...))...)
}

// risingBytes are the kids of a node that has all nodes ahead of it as kids, from place 0 on.
func risingBytes(count int) string {
	b := ""
	for at := range count {
		b += varint.Put(uint64(count - at))
	}
	return b
}

// mark is what lies in the spare room behind the lists that marked makes.
const mark = 77

// roomy is a list with two marks in the spare room behind it.
func roomy[T any](l []T, m T) []T {
	return append(append(make([]T, 0, len(l)+2), l...), m, m)[:len(l)]
}

// markedRoom tells whether a list has still its marks behind it.
func markedRoom[T comparable](l []T, m T) bool {
	return slices.Equal(l[len(l):cap(l)][:2], []T{m, m})
}

// marked is a scene like s, with marks in the spare room behind all its lists.
func marked(s api.Scene) api.Scene {
	l := make([]api.Node, 0, len(s.Nodes)+1)
	for _, n := range s.Nodes {
		l = append(l, api.Node{Kind: n.Kind, Ints: roomy(n.Ints, mark), Texts: roomy(n.Texts, "mark"), Kids: roomy(n.Kids, mark)})
	}
	l[:cap(l)][len(l)].Kind = mark
	return api.Scene{Nodes: l, Root: s.Root}
}

// checkMarked wants a scene that marked made of s to be still as it was, its spare room too.
func checkMarked(t *testing.T, x, s api.Scene) {
	t.Helper()
	ok := same(x, s) && sameNode(x.Nodes[:len(x.Nodes)+1][len(x.Nodes)], api.Node{Kind: mark})
	for _, n := range x.Nodes {
		ok = ok && markedRoom(n.Ints, mark) && markedRoom(n.Texts, "mark") && markedRoom(n.Kids, mark)
	}
	if !ok {
		t.Errorf("Put: what was handed in became %s, from %s", brief(x), brief(s))
	}
}

// spoil changes all that a node's lists hold, their spare room too.
func spoil(n api.Node) {
	for i := range n.Ints[:cap(n.Ints)] {
		n.Ints[:cap(n.Ints)][i] = -99
	}
	for i := range n.Texts[:cap(n.Texts)] {
		n.Texts[:cap(n.Texts)][i] = "spoilt"
	}
	for i := range n.Kids[:cap(n.Kids)] {
		n.Kids[:cap(n.Kids)][i] = -99
	}
}

// checkPut wants Put to tell this, whenever it is asked, and the scene to stay as it is.
func checkPut(t *testing.T, s api.Scene, texts, nodes string, e api.Errno) {
	t.Helper()
	x := marked(s)
	for range 2 {
		if gotT, gotN, gotE := Put(x); gotT != texts || gotN != nodes || gotE != e {
			t.Errorf("Put(%s): %.300x, %.300x, %d, not %.300x, %.300x, %d", brief(s), gotT, gotN, gotE, texts, nodes, e)
		}
	}
	checkMarked(t, x, s)
}

// checkGet wants Get to tell this, whenever it is asked.
func checkGet(t *testing.T, texts, nodes string, l api.Limits, s api.Scene, e api.Errno) {
	t.Helper()
	for range 2 {
		got, gotE := Get(texts, nodes, l)
		if gotE != e || !same(got, s) {
			t.Errorf("Get(%.300x, %.300x, %v): %s, %d, not %s, %d", texts, nodes, l, brief(got), gotE, brief(s), e)
		}
		for _, n := range got.Nodes {
			spoil(n)
		}
	}
}

// checkWrong wants Get to refuse the bytes.
func checkWrong(t *testing.T, texts, nodes string, l api.Limits, e api.Errno) {
	t.Helper()
	checkGet(t, texts, nodes, l, api.Scene{}, e)
}

// P14.1, P14.2: the chapter's example.
func TestExample(t *testing.T) {
	s := api.Scene{Nodes: []api.Node{{Kind: api.KBall, Ints: []int64{1}, Texts: []string{"a"}}}}
	checkPut(t, s, "\x01\x01a", "\x01\x04\x02\x00\x00", api.OK)
	checkGet(t, "\x01\x01a", "\x01\x04\x02\x00\x00", widest(), s, api.OK)
}

// P14.1
func TestPutTellsTheBytes(t *testing.T) {
	for _, x := range spellings() {
		checkPut(t, x.s, x.texts, x.nodes, api.OK)
	}
}

// P14.1: of the nodes the first one of which something isn't so, wherever it stands.
func TestPutRefusesNodes(t *testing.T) {
	for _, x := range []struct {
		n api.Node
		e api.Errno
	}{
		{api.Node{}, api.ErrKind},
		{api.Node{Kind: 9}, api.ErrKind},
		{api.Node{Kind: -1}, api.ErrKind},
		{ball(-1, "a"), api.ErrField},
		{light(0, 0, 0), api.ErrField},
		{light(0, 0, 256, 0), api.ErrField},
		{light(0, 0, 0, 2), api.ErrField},
		{ball(1, "\xc3"), api.ErrText},
		{api.Node{Kind: api.KGroup}, api.ErrText},
		{move(0, 0, 0), api.ErrKids},
		{api.Node{Kind: api.KLight, Ints: []int64{0, 0, 0, 0}, Kids: []int{0}}, api.ErrKids},
	} {
		checkPut(t, made(x.n), "", "", x.e)
		checkPut(t, made(x.n, group("g", 0)), "", "", x.e)
		checkPut(t, made(ball(1, "a"), x.n, group("g", 0, 1)), "", "", x.e)
		// What stands behind it isn't told, nor how the nodes lead to each other.
		checkPut(t, made(x.n, api.Node{Kind: 99}, group("\xff", 9)), "", "", x.e)
		checkPut(t, api.Scene{Nodes: []api.Node{x.n, group("g", 9)}, Root: 9}, "", "", x.e)
	}
}

// P14.1
func TestPutRefusesWays(t *testing.T) {
	checkPut(t, api.Scene{}, "", "", api.ErrRef)
	checkPut(t, api.Scene{Root: -1}, "", "", api.ErrRef)
	for _, root := range []int{-1, 1, 2, math.MaxInt, math.MinInt} {
		checkPut(t, api.Scene{Nodes: []api.Node{ball(1, "a")}, Root: root}, "", "", api.ErrRef)
	}
	for _, kid := range []int{-1, 2, math.MaxInt, math.MinInt} {
		checkPut(t, made(ball(1, "a"), group("g", 0, kid)), "", "", api.ErrRef)
		checkPut(t, made(group("g", kid), group("g", 0)), "", "", api.ErrRef)
	}
	checkPut(t, made(group("g", 0)), "", "", api.ErrCycle)
	checkPut(t, made(group("g", 1), group("h", 0)), "", "", api.ErrCycle)
	checkPut(t, made(ball(1, "a"), ball(1, "a")), "", "", api.ErrLoose)
	checkPut(t, made(group("g"), ball(1, "a"), group("h", 1)), "", "", api.ErrLoose)
	// Of several the one that graph.Check names first.
	checkPut(t, made(group("g", 0), group("h"), group("i", 3)), "", "", api.ErrRef)
	checkPut(t, made(ball(1, "a"), group("g", 1), group("h", 1)), "", "", api.ErrCycle)
	checkPut(t, api.Scene{Nodes: []api.Node{group("g", 1), ball(1, "a"), ball(1, "b")}}, "", "", api.ErrLoose)
}

// P14.1: nodes in another order than the canonical one.
func TestPutRefusesOrders(t *testing.T) {
	checkPut(t, api.Scene{Nodes: []api.Node{group("g", 1), ball(1, "a")}}, "", "", api.ErrOrder)
	checkPut(t, made(ball(1, "a"), ball(1, "b"), group("g", 1, 0)), "", "", api.ErrOrder)
	checkPut(t, made(ball(1, "a"), ball(1, "a"), group("g", 1, 0)), "", "", api.ErrOrder)
	checkPut(t, made(ball(1, "a"), ball(1, "b"), group("g", 0), group("h", 2, 1)), "", "", api.ErrOrder)
	checkPut(t, api.Scene{Nodes: []api.Node{ball(1, "a"), group("h", 0, 2), ball(1, "b")}, Root: 1}, "", "", api.ErrOrder)
	checkPut(t, made(ball(1, "a"), group("g", 0), ball(1, "b"), group("h", 1, 2)), "\x04\x01a\x01g\x01b\x01h", "\x04\x04\x02\x00\x00\x01\x01\x01\x01\x04\x02\x02\x00\x01\x03\x02\x02\x01", api.OK)
}

// P14.2, P14.3
func TestGetTellsTheScene(t *testing.T) {
	for _, x := range spellings() {
		checkGet(t, x.texts, x.nodes, widest(), x.s, api.OK)
		checkGet(t, x.texts, x.nodes, limit.Measure(x.s), x.s, api.OK)
	}
}

// P14.2: each limit, at the scene's measure and one below it; Bytes plays no part, but that it has to be one.
func TestGetWithinLimits(t *testing.T) {
	for _, x := range spellings() {
		m := limit.Measure(x.s)
		for i := range 5 {
			for _, l := range []api.Limits{m, widest()} {
				*parts(&l)[i] = *parts(&m)[i]
				checkGet(t, x.texts, x.nodes, l, x.s, api.OK)
				*parts(&l)[i]--
				if *parts(&l)[i] < 0 {
					checkWrong(t, x.texts, x.nodes, l, api.ErrArg)
					continue
				}
				checkWrong(t, x.texts, x.nodes, l, api.ErrLimit)
			}
		}
	}
}

// P14.2: limits that mayn't be, ahead of all that the bytes may have.
func TestGetRefusesLimits(t *testing.T) {
	for i := range 5 {
		for _, n := range []int{-1, most + 1, math.MaxInt, math.MinInt, 1 << 32} {
			l := widest()
			*parts(&l)[i] = n
			for _, x := range spellings() {
				checkWrong(t, x.texts, x.nodes, l, api.ErrArg)
			}
			checkWrong(t, "", "", l, api.ErrArg)
			checkWrong(t, "\x80\x00", "\x80\x00", l, api.ErrArg)
		}
	}
	checkWrong(t, "", "", api.Limits{}, api.ErrCut)
	checkWrong(t, "\x00", "", api.Limits{}, api.ErrCut)
	checkWrong(t, "\x00", "\x00", api.Limits{}, api.ErrRef)
	checkWrong(t, "\x00", "\x01", api.Limits{}, api.ErrLimit)
}

// P14.2: what is wrong with the texts is told ahead of what is wrong with the nodes.
func TestGetRefusesTexts(t *testing.T) {
	l := widest()
	l.Text = 9
	for _, x := range []struct {
		texts string
		e     api.Errno
	}{
		{"", api.ErrCut},
		{"\x81", api.ErrCut},
		{"\x81\x00", api.ErrLong},
		{aboveBytes, api.ErrLimit},
		{mostBytes, api.ErrCut},
		{mostBytes + "\x01a", api.ErrCut},
		{"\x01", api.ErrCut},
		{"\x01\x01", api.ErrCut},
		{"\x01\x81\x00", api.ErrLong},
		{"\x01\x0a0123456789", api.ErrLimit},
		{"\x02\x0801234567\x01", api.ErrCut},
		{"\x02\x0801234567\x0289", api.ErrLimit},
		{"\x01\x01\xff", api.ErrText},
		{"\x01\x02\xc3a", api.ErrText},
		{"\x02\x01a\x01a", api.ErrTwice},
		{"\x02\x00\x00", api.ErrTwice},
		{"\x01\x01a\x00", api.ErrMore},
		{"\x00\x00", api.ErrMore},
	} {
		for _, nodes := range []string{"", "\x00", "\x01\x09", "\x01\x04\x02\x00\x00", "\x02\x07\x00\x00\x00\x00\x00\x07\x00\x00\x00\x00\x00", "\x80\x00"} {
			checkWrong(t, x.texts, nodes, l, x.e)
		}
	}
	checkGet(t, "\x02\x0801234567\x018", "\x01\x05\x00\x00\x01\x00", l, made(label(0, "01234567", "8")), api.OK)
	checkWrong(t, "\x02\x0801234567\x018", "\x01\x05\x00\x01\x00\x00", l, api.ErrUnused)
}

// P14.2: how many nodes there are.
func TestGetCountsNodes(t *testing.T) {
	one, l := "\x07\x00\x00\x00\x00\x00", widest()
	for _, x := range []struct {
		nodes string
		most  int
		e     api.Errno
	}{
		{"", most, api.ErrCut},
		{"\x81", most, api.ErrCut},
		{"\x81\x00" + one, most, api.ErrLong},
		{"\x80\x00", most, api.ErrLong},
		{"\x00", most, api.ErrRef},
		{"\x00", 0, api.ErrRef},
		{"\x00" + one, most, api.ErrRef},
		{"\x00\x80\x00", most, api.ErrRef},
		{"\x01" + one, 0, api.ErrLimit},
		{"\x02" + one + one, 1, api.ErrLimit},
		{"\x05", 4, api.ErrLimit},
		{"\x04", 4, api.ErrCut},
		{mostBytes, most, api.ErrCut},
		{mostBytes, most - 1, api.ErrLimit},
		{aboveBytes, most, api.ErrLimit},
		{varint.Put(math.MaxUint64), most, api.ErrLimit},
		{varint.Put(1 << 32), most, api.ErrLimit},
		{"\x02" + one, most, api.ErrCut},
		{"\x01" + one + one, most, api.ErrMore},
		{"\x01" + one + "\x00", most, api.ErrMore},
	} {
		l.Nodes = x.most
		checkWrong(t, "\x00", x.nodes, l, x.e)
	}
}

// P14.2: what is wrong with a record, at whatever place it stands; the first one tells.
func TestGetRefusesRecords(t *testing.T) {
	right := "\x04\x00\x00\x00"
	for _, x := range []struct {
		record string
		e      api.Errno
	}{
		{"", api.ErrCut},
		{"\x81\x00", api.ErrLong},
		{aboveBytes, api.ErrLimit},
		{"\x00\x00", api.ErrKind},
		{"\x09\x00", api.ErrKind},
		{"\x04\x01\x00\x00", api.ErrField},
		{"\x07\x00\x00\x00\x04\x00", api.ErrField},
		{"\x04\x00\x01\x00", api.ErrRef},
		{"\x04\x00\x00\x01\x01", api.ErrKids},
		{"\x02\x00\x00\x00\x00", api.ErrKids},
		{"\x01\x00\x01\x00", api.ErrRef},
		{"\x01\x00\x01\x80\x00", api.ErrLong},
		{"\x01\x00" + mostBytes, api.ErrCut},
		{"\x01\x00" + aboveBytes, api.ErrLimit},
	} {
		checkWrong(t, "\x01\x01a", "\x01"+x.record, widest(), x.e)
		checkWrong(t, "\x01\x01a", "\x03"+right+x.record, widest(), x.e)
		checkWrong(t, "\x01\x01a", "\x03"+right+right+x.record, widest(), x.e)
		if x.e != api.ErrCut {
			checkWrong(t, "\x01\x01a", "\x04"+right+x.record+"\x00"+right, widest(), x.e)
			checkWrong(t, "\x01\x01a", "\x01"+x.record+"\x80\x00", widest(), x.e)
		}
	}
}

// P14.2: a record is read at its place: kids stand ahead, from place 0 on.
func TestGetReadsByPlaces(t *testing.T) {
	ring := "\x06\x00\x01"
	checkWrong(t, "\x00", "\x01"+ring+"\x01", widest(), api.ErrRef)
	checkWrong(t, "\x00", "\x02\x06\x00\x00"+ring+"\x02", widest(), api.ErrRef)
	checkWrong(t, "\x00", "\x03\x06\x00\x00"+ring+"\x01"+ring+"\x03", widest(), api.ErrRef)
	checkGet(t, "\x00", "\x03\x06\x00\x00"+ring+"\x01"+ring+"\x01", widest(), made(choice(0), choice(0, 0), choice(0, 1)), api.OK)
	checkWrong(t, "\x00", "\x03\x06\x00\x00"+ring+"\x01"+ring+"\x02", widest(), api.ErrLoose)
}

// P14.2: the edges of all nodes together; a node has as many as those ahead of it leave.
func TestGetCountsEdges(t *testing.T) {
	b, s := "\x04\x06\x00\x00\x06\x00\x03\x01\x01\x01\x06\x00\x00\x06\x00\x02\x02\x01", made(choice(0), choice(0, 0, 0, 0), choice(0), choice(0, 1, 2))
	l := widest()
	for edges := range 7 {
		l.Edges = edges
		if edges >= 5 {
			checkGet(t, "\x00", b, l, s, api.OK)
			continue
		}
		checkWrong(t, "\x00", b, l, api.ErrLimit)
	}
	// The first node with too many tells, ahead of what is wrong with the next ones.
	l.Edges = 2
	checkWrong(t, "\x00", "\x03\x06\x00\x00\x06\x00\x02\x01\x01\x06\x00\x01\x03", l, api.ErrLimit)
	checkWrong(t, "\x00", "\x03\x06\x00\x00\x06\x00\x02\x01\x01\x06\x00\x00\x00", l, api.ErrMore)
	l.Edges = 3
	checkWrong(t, "\x00", "\x03\x06\x00\x00\x06\x00\x02\x01\x01\x06\x00\x01\x03", l, api.ErrRef)
	l.Edges = 0
	checkGet(t, "\x00", "\x01\x06\x00\x00", l, made(choice(0)), api.OK)
	checkWrong(t, "\x00", "\x01\x02\x00\x00\x00\x01\x01", l, api.ErrLimit)
}

// P14.2: how many nodes the longest way down has.
func TestGetCountsDepth(t *testing.T) {
	b, s := "\x04\x06\x00\x00\x06\x00\x01\x01\x06\x00\x01\x01\x06\x00\x02\x03\x01", made(choice(0), choice(0, 0), choice(0, 1), choice(0, 0, 2))
	l := widest()
	for depth := range 6 {
		l.Depth = depth
		if depth >= 4 {
			checkGet(t, "\x00", b, l, s, api.OK)
			continue
		}
		checkWrong(t, "\x00", b, l, api.ErrLimit)
	}
	l.Depth = 0
	checkWrong(t, "\x00", "\x01\x06\x00\x00", l, api.ErrLimit)
}

// P14.2
func TestGetRefusesLooseNodes(t *testing.T) {
	one := "\x07\x00\x00\x00\x00\x00"
	checkWrong(t, "\x00", "\x02"+one+one, widest(), api.ErrLoose)
	checkWrong(t, "\x00", "\x03"+one+one+"\x06\x00\x01\x01", widest(), api.ErrLoose)
	checkWrong(t, "\x00", "\x03"+one+one+"\x06\x00\x01\x02", widest(), api.ErrLoose)
	checkWrong(t, "\x00", "\x03"+one+"\x06\x00\x01\x01"+one, widest(), api.ErrLoose)
}

// P14.2: nodes in another order, also where the nodes are alike.
func TestGetRefusesOrders(t *testing.T) {
	checkWrong(t, "\x02\x01a\x01b", "\x03\x04\x00\x00\x00\x04\x00\x01\x00\x06\x00\x02\x01\x02", widest(), api.ErrOrder)
	checkWrong(t, "\x01\x01a", "\x03\x04\x00\x00\x00\x04\x00\x00\x00\x06\x00\x02\x01\x02", widest(), api.ErrOrder)
	checkWrong(t, "\x00", "\x03\x06\x00\x00\x06\x00\x00\x06\x00\x03\x01\x02\x01", widest(), api.ErrOrder)
	// A kid of the root that another one of its kids leads to later is no fault; one that would have had its place earlier is.
	checkGet(t, "\x00", "\x03\x06\x00\x00\x06\x00\x01\x01\x06\x00\x02\x02\x01", widest(), made(choice(0), choice(0, 0), choice(0, 0, 1)), api.OK)
	checkWrong(t, "\x00", "\x04\x06\x00\x00\x06\x00\x00\x06\x00\x01\x02\x06\x00\x02\x02\x01", widest(), api.ErrOrder)
}

// P14.2: the texts are those of the nodes, each, and in the order of their first use.
func TestGetRefusesTables(t *testing.T) {
	label := func(text, font string) string { return "\x01\x05\x00" + text + font + "\x00" }
	for _, texts := range []string{"\x01\x01a", "\x01\x00", "\x03\x01a\x01b\x01c"} {
		checkWrong(t, texts, "\x01\x07\x00\x00\x00\x00\x00", widest(), api.ErrUnused)
	}
	checkGet(t, "\x02\x01a\x01b", label("\x00", "\x01"), widest(), made(api.Node{Kind: api.KLabel, Ints: []int64{0}, Texts: []string{"a", "b"}}), api.OK)
	checkWrong(t, "\x02\x01b\x01a", label("\x01", "\x00"), widest(), api.ErrUnused)
	checkWrong(t, "\x02\x01a\x01b", label("\x01", "\x00"), widest(), api.ErrUnused)
	checkWrong(t, "\x02\x01a\x01b", label("\x00", "\x00"), widest(), api.ErrUnused)
	checkWrong(t, "\x02\x01a\x01b", label("\x01", "\x01"), widest(), api.ErrUnused)
	checkWrong(t, "\x03\x01a\x01b\x01c", label("\x00", "\x01"), widest(), api.ErrUnused)
	checkWrong(t, "\x03\x01a\x01b\x01c", label("\x00", "\x02"), widest(), api.ErrUnused)
	checkWrong(t, "\x03\x01a\x01b\x00", label("\x00", "\x01"), widest(), api.ErrUnused)
	// By the nodes' order, not by the way in which the root leads to them.
	two := "\x03\x04\x00\x01\x00\x04\x00\x00\x00\x06\x00\x02\x02\x01"
	checkWrong(t, "\x02\x01b\x01a", two, widest(), api.ErrUnused)
	checkWrong(t, "\x02\x01a\x01b", two, widest(), api.ErrUnused)
}

// P14.2: where several errors apply, the one that is named first; each pair of them that stand beside each other.
func TestGetOfSeveralErrors(t *testing.T) {
	one, alike := "\x06\x00\x00", "\x03\x06\x00\x00\x06\x00\x00"
	l := widest()
	l.Depth = 1
	checkWrong(t, "\x81\x00", "\x00", l, api.ErrLong)
	checkWrong(t, "\x00", "\x00\x00", l, api.ErrRef)
	checkWrong(t, "\x00", "\x02"+one+"\x09\x00", l, api.ErrKind)
	checkWrong(t, "\x00", "\x02"+one+one+"\x00", l, api.ErrMore)
	checkWrong(t, "\x00", "\x03"+one+one+"\x06\x00\x01\x01", l, api.ErrLoose)
	checkWrong(t, "\x00", alike+"\x06\x00\x02\x01\x02", l, api.ErrLimit)
	l.Depth = 2
	checkWrong(t, "\x01\x01a", alike+"\x06\x00\x02\x01\x02", l, api.ErrOrder)
	checkWrong(t, "\x01\x01a", alike+"\x06\x00\x02\x02\x01", l, api.ErrUnused)
	checkGet(t, "\x00", alike+"\x06\x00\x02\x02\x01", l, made(choice(0), choice(0), choice(0, 0, 1)), api.OK)
}

// P14.2: a count that says more than there is takes no room.
func TestGetMakesNoRoomByACount(t *testing.T) {
	var before, after runtime.MemStats
	runtime.ReadMemStats(&before)
	for range 100 {
		checkWrong(t, "\x00", mostBytes, widest(), api.ErrCut)
		checkWrong(t, "\x00", mostBytes+"\x06\x00"+mostBytes, widest(), api.ErrCut)
		checkWrong(t, "\x00", mostBytes+"\x06\x00\x00\x06\x00"+mostBytes+"\x01", widest(), api.ErrCut)
		checkWrong(t, mostBytes, "", widest(), api.ErrCut)
	}
	runtime.ReadMemStats(&after)
	if took := after.TotalAlloc - before.TotalAlloc; took > 4<<20 {
		t.Errorf("%d bytes of room", took)
	}
}

// P14.2: what is answered is new memory, and no two lists of it share any.
func TestGetAnswersNewMemory(t *testing.T) {
	for _, x := range spellings() {
		first, _ := Get(x.texts, x.nodes, widest())
		again, _ := Get(x.texts, x.nodes, widest())
		for at, n := range first.Nodes {
			if !sameNode(n, x.s.Nodes[at]) {
				t.Errorf("node %d of %s: it became %v, as another one was changed", at, brief(x.s), n)
			}
			spoil(n)
		}
		clear(first.Nodes[:cap(first.Nodes)])
		if !same(again, x.s) {
			t.Errorf("%.300x: it became %s, as another answer was changed", x.nodes, brief(again))
		}
	}
}

// row is what a kind has, by the table of chapter 7.
type row struct {
	ints        string // a letter a number: i any, f fixed, s size, b byte, o bool
	texts       int
	least, most int
}

// rows are the kinds of version 2, from kind 1 on.
func rows() []row {
	return []row{{}, {"", 1, 0, -1}, {"fff", 0, 1, 1}, {"sss", 1, 0, 0}, {"s", 1, 0, 0}, {"s", 2, 0, 0}, {"i", 0, 0, -1}, {"bbbo", 0, 0, 0}, {"fff", 0, 1, 1}}
}

func inClass(class byte, n int64) bool {
	switch class {
	case 'f':
		return -1<<47 <= n && n <= 1<<47
	case 's':
		return 0 <= n && n <= 1<<47
	case 'b':
		return 0 <= n && n <= 255
	case 'o':
		return n == 0 || n == 1
	}
	return true
}

func (r row) letsKids(count int) bool {
	return count >= r.least && (r.most < 0 || count <= r.most)
}

// plainReader reads by the words of chapters 1 and 2, up to the first error.
type plainReader struct {
	b  string
	at int
	e  api.Errno
}

// number reads one, of at most so much.
func (r *plainReader) number(most uint64) uint64 {
	if r.e != api.OK {
		return 0
	}
	n, next, e := varint.Get(r.b, r.at)
	r.want(e == api.OK, e)
	r.want(n <= most, api.ErrLimit)
	r.at = next
	return n
}

// want fails, unless something is so.
func (r *plainReader) want(ok bool, e api.Errno) {
	if !ok && r.e == api.OK {
		r.e = e
	}
}

// plainTexts are the texts of a table, by the words of chapter 6.
func plainTexts(b string, room int) ([]string, api.Errno) {
	r := &plainReader{b: b}
	count := int(r.number(most))
	var l []string
	for len(l) < count && r.e == api.OK {
		n := int(r.number(uint64(room)))
		if r.want(n <= len(b)-r.at, api.ErrCut); r.e != api.OK {
			return nil, r.e
		}
		s := b[r.at : r.at+n]
		r.at, room = r.at+n, room-n
		r.want(utf8.ValidString(s), api.ErrText)
		r.want(!slices.Contains(l, s), api.ErrTwice)
		l = append(l, s)
	}
	r.want(r.at == len(b), api.ErrMore)
	return l, r.e
}

// node reads a record at a place, by the words of chapter 13.
func (r *plainReader) node(at int, texts []string, edges int) api.Node {
	n := api.Node{Kind: int(r.number(most))}
	if r.want(n.Kind >= 1 && n.Kind <= 8, api.ErrKind); r.e != api.OK {
		return n
	}
	has := rows()[n.Kind]
	for i := range has.ints {
		x := varint.Zag(r.number(math.MaxUint64))
		r.want(inClass(has.ints[i], x), api.ErrField)
		n.Ints = append(n.Ints, x)
	}
	for range has.texts {
		x := int(r.number(most))
		r.want(x < len(texts), api.ErrRef)
		if r.e == api.OK {
			n.Texts = append(n.Texts, texts[x])
		}
	}
	count := int(r.number(uint64(edges)))
	r.want(has.letsKids(count), api.ErrKids)
	for len(n.Kids) < count && r.e == api.OK {
		x := int(r.number(most))
		r.want(x >= 1 && x <= at, api.ErrRef)
		n.Kids = append(n.Kids, at-x)
	}
	return n
}

// plainGet is Get by the chapter's words.
func plainGet(texts, nodes string, l api.Limits) (api.Scene, api.Errno) {
	for _, n := range parts(&l) {
		if *n < 0 || *n > most {
			return api.Scene{}, api.ErrArg
		}
	}
	table, e := plainTexts(texts, l.Text)
	if e != api.OK {
		return api.Scene{}, e
	}
	r, s := &plainReader{b: nodes}, api.Scene{}
	count := int(r.number(uint64(l.Nodes)))
	r.want(count > 0, api.ErrRef)
	for at := 0; at < count && r.e == api.OK; at++ {
		n := r.node(at, table, l.Edges)
		l.Edges -= len(n.Kids)
		s.Nodes = append(s.Nodes, n)
	}
	r.want(r.at == len(nodes), api.ErrMore)
	if r.e != api.OK {
		return api.Scene{}, r.e
	}
	s.Root = count - 1
	order, depth := plainOrder(s)
	r.want(len(order) == count, api.ErrLoose)
	r.want(depth <= l.Depth, api.ErrLimit)
	r.want(slices.IsSorted(order), api.ErrOrder)
	r.want(slices.Equal(plainTable(s), table), api.ErrUnused)
	if r.e != api.OK {
		return api.Scene{}, r.e
	}
	return s, api.OK
}

// plainOrder is the places that the root leads to, and its own, in the canonical order, by the words of chapter 10; and how many nodes the longest way down has. It is for scenes without cycles.
func plainOrder(s api.Scene) ([]int, int) {
	var order []int
	depths := make([]int, len(s.Nodes))
	var down func(at int)
	down = func(at int) {
		deep := 0
		for _, kid := range s.Nodes[at].Kids {
			if depths[kid] == 0 {
				down(kid)
			}
			deep = max(deep, depths[kid])
		}
		depths[at] = deep + 1
		order = append(order, at)
	}
	down(s.Root)
	return order, depths[s.Root]
}

// plainTable is a scene's texts, by the chapter's words, if it is canonical.
func plainTable(s api.Scene) []string {
	var l []string
	for _, n := range s.Nodes {
		for _, text := range n.Texts {
			if !slices.Contains(l, text) {
				l = append(l, text)
			}
		}
	}
	return l
}

// plainTextBytes are the bytes of a table, by the words of chapter 6.
func plainTextBytes(l []string) string {
	b := varint.Put(uint64(len(l)))
	for _, s := range l {
		b += varint.Put(uint64(len(s))) + s
	}
	return b
}

// plainNodeBytes are a scene's nodes by the chapter's words, with a table that has all its texts, if its kids stand ahead; the scene may have other faults.
func plainNodeBytes(s api.Scene, table []string) string {
	b := varint.Put(uint64(len(s.Nodes)))
	for at, n := range s.Nodes {
		b += varint.Put(uint64(n.Kind))
		for _, x := range n.Ints {
			b += varint.Put(varint.Zig(x))
		}
		for _, text := range n.Texts {
			b += varint.Put(uint64(slices.Index(table, text)))
		}
		b += varint.Put(uint64(len(n.Kids)))
		for _, kid := range n.Kids {
			b += varint.Put(uint64(at - kid))
		}
	}
	return b
}

// plainTyped is the first node's error, by the words of chapters 7, 8 and 12.
func plainTyped(s api.Scene) api.Errno {
	for _, n := range s.Nodes {
		if n.Kind < 1 || n.Kind > 8 {
			return api.ErrKind
		}
		has := rows()[n.Kind]
		if len(n.Ints) != len(has.ints) {
			return api.ErrField
		}
		for i, x := range n.Ints {
			if !inClass(has.ints[i], x) {
				return api.ErrField
			}
		}
		switch {
		case len(n.Texts) != has.texts || slices.ContainsFunc(n.Texts, func(s string) bool { return !utf8.ValidString(s) }):
			return api.ErrText
		case !has.letsKids(len(n.Kids)):
			return api.ErrKids
		}
	}
	return api.OK
}

// plainWays is graph.Check's error, by the words of chapter 9, or ErrOrder.
func plainWays(s api.Scene) api.Errno {
	wrong := func(at int) bool { return at < 0 || at >= len(s.Nodes) }
	if wrong(s.Root) || slices.ContainsFunc(s.Nodes, func(n api.Node) bool { return slices.ContainsFunc(n.Kids, wrong) }) {
		return api.ErrRef
	}
	// leads are the places that a node leads to by one step or more.
	leads := func(from int) map[int]bool {
		met, ahead := map[int]bool{}, []int{from}
		for len(ahead) > 0 {
			for _, kid := range s.Nodes[ahead[0]].Kids {
				if !met[kid] {
					met[kid] = true
					ahead = append(ahead, kid)
				}
			}
			ahead = ahead[1:]
		}
		return met
	}
	for at := range s.Nodes {
		if leads(at)[at] {
			return api.ErrCycle
		}
	}
	if len(leads(s.Root)) != len(s.Nodes)-1 {
		return api.ErrLoose
	}
	if order, _ := plainOrder(s); !slices.IsSorted(order) {
		return api.ErrOrder
	}
	return api.OK
}

// checkBytes holds Get against the promises' words, and what is got against its bytes; it tells what is wrong with them.
func checkBytes(t *testing.T, texts, nodes string, l api.Limits) api.Errno {
	t.Helper()
	s, e := plainGet(texts, nodes, l)
	checkGet(t, texts, nodes, l, s, e)
	if e == api.OK {
		checkPut(t, s, texts, nodes, api.OK)
		if wrong, at := limit.Valid(s, l); wrong != api.OK {
			t.Errorf("Get(%.300x, %.300x): %s isn't valid: %d at %d", texts, nodes, brief(s), wrong, at)
		}
	}
	return e
}

// checkScene holds Put against the promises' words, and what is put against its scene; it tells what is wrong with it.
func checkScene(t *testing.T, s api.Scene) api.Errno {
	t.Helper()
	e := plainTyped(s)
	if e == api.OK {
		e = plainWays(s)
	}
	if e != api.OK {
		checkPut(t, s, "", "", e)
		return e
	}
	table := plainTable(s)
	texts, nodes := plainTextBytes(table), plainNodeBytes(s, table)
	checkPut(t, s, texts, nodes, api.OK)
	checkGet(t, texts, nodes, limit.Measure(s), s, api.OK)
	return api.OK
}

// P14.3: of scenes that are hand-made.
func TestConsequences(t *testing.T) {
	for _, x := range spellings() {
		if e := checkScene(t, x.s); e != api.OK {
			t.Errorf("%s: %d", brief(x.s), e)
		}
		if e := checkBytes(t, x.texts, x.nodes, limit.Measure(x.s)); e != api.OK {
			t.Errorf("%.300x: %d", x.nodes, e)
		}
	}
}

// P14.2: cut off, and with one byte more or another one, anywhere.
func TestGetOfNearBytes(t *testing.T) {
	for _, x := range spellings() {
		// Of a long row of nodes that are alike all places are alike, too.
		if len(x.nodes) > 100 {
			continue
		}
		l := limit.Measure(x.s)
		for i := range x.texts + x.nodes {
			for _, b := range []string{"", "\x00", "\x01", "\x02", "\x03", "\x07", "\x7f", "\x80", "\xff"} {
				if i < len(x.texts) {
					checkBytes(t, x.texts[:i]+b, x.nodes, l)
					checkBytes(t, x.texts[:i]+b+x.texts[i:], x.nodes, l)
					checkBytes(t, x.texts[:i]+b+x.texts[i+1:], x.nodes, l)
					continue
				}
				at := i - len(x.texts)
				checkBytes(t, x.texts, x.nodes[:at]+b, l)
				checkBytes(t, x.texts, x.nodes[:at]+b+x.nodes[at:], l)
				checkBytes(t, x.texts, x.nodes[:at]+b+x.nodes[at+1:], l)
			}
		}
	}
}

// smallNodes are nodes, some with texts, that have up to two kids of these.
func smallNodes(kids []int) []api.Node {
	l := []api.Node{choice(0), ball(0, "a"), ball(0, "b"), group("a")}
	for _, one := range kids {
		l = append(l, choice(0, one), group("b", one), move(0, 0, 0, one))
		for _, other := range kids {
			l = append(l, choice(0, one, other))
		}
	}
	return l
}

// P14.1, P14.3: all small scenes, whatever the kids' and the root's places are.
func TestAllSmallScenes(t *testing.T) {
	met := map[api.Errno]int{}
	for count := range 4 {
		var kids []int
		for at := range count + 1 {
			kids = append(kids, at)
		}
		choices := smallNodes(kids)
		var grow func(l []api.Node)
		grow = func(l []api.Node) {
			if len(l) < count {
				for _, n := range choices {
					grow(append(slices.Clone(l), n))
				}
				return
			}
			for root := -1; root <= count; root++ {
				met[checkScene(t, api.Scene{Nodes: l, Root: root})]++
			}
		}
		grow(nil)
	}
	for _, e := range []api.Errno{api.OK, api.ErrRef, api.ErrCycle, api.ErrLoose, api.ErrOrder} {
		if met[e] == 0 {
			t.Errorf("no scene of %d", e)
		}
	}
}

// P14.2, P14.3: all short rows of some records, with some tables, within some limits.
func TestAllShortRows(t *testing.T) {
	records := []string{"\x06\x00\x00", "\x04\x00\x00\x00", "\x04\x00\x01\x00", "\x06\x00\x01\x01", "\x06\x00\x01\x02", "\x06\x00\x02\x01\x02", "\x06\x00\x02\x02\x01", "\x01\x00\x03\x01\x03\x02", "\x00", "\x80\x00"}
	tables := []string{"\x00", "\x01\x01a", "\x02\x01a\x01b", "\x02\x01b\x01a", "\x02\x00\x01a"}
	limits := []api.Limits{widest(), {Nodes: 3, Edges: 3, Depth: 3, Text: 2}, {Nodes: 4, Edges: 2, Depth: 2, Text: 2}, {Nodes: 4, Edges: 4, Depth: 2, Text: 1}}
	met := map[api.Errno]int{}
	var grow func(b string, have int)
	grow = func(b string, have int) {
		for _, count := range []string{"\x00", "\x01", "\x02", "\x03", "\x04"} {
			for i, texts := range tables {
				for _, l := range limits[:1+(have+i)%len(limits)] {
					met[checkBytes(t, texts, count+b, l)]++
				}
			}
		}
		if have == 4 || t.Failed() {
			return
		}
		for _, r := range records {
			grow(b+r, have+1)
		}
	}
	grow("", 0)
	for _, e := range []api.Errno{api.OK, api.ErrCut, api.ErrLong, api.ErrMore, api.ErrKind, api.ErrRef, api.ErrLoose, api.ErrOrder, api.ErrUnused, api.ErrLimit} {
		if met[e] == 0 {
			t.Errorf("no row of %d", e)
		}
	}
}

// source makes scenes that are canonical, and others, and bytes that are often a scene's.
type source struct{ next func(n int) int }

func (r source) text() string {
	return []string{"", "a", "b", "ab", "\u20ac", "e\u0301", "\x00", "\U0010ffff"}[r.next(8)]
}

// node is one that has its kids ahead of a place.
func (r source) node(at int) api.Node {
	kind := 1 + r.next(8)
	if at == 0 && rows()[kind].least > 0 {
		kind = api.KGroup
	}
	has, n := rows()[kind], api.Node{Kind: kind}
	for range has.ints {
		n.Ints = append(n.Ints, int64(r.next(2)))
	}
	for range has.texts {
		n.Texts = append(n.Texts, r.text())
	}
	count := has.least
	if has.most < 0 && at > 0 {
		count = r.next(5)
	}
	for range count {
		n.Kids = append(n.Kids, []int{0, at - 1, r.next(at)}[r.next(3)])
	}
	return n
}

// scene is a canonical one.
func (r source) scene() api.Scene {
	var l []api.Node
	for at := range 1 + r.next(9) {
		l = append(l, r.node(at))
	}
	// The root leads to all that nothing else leads to.
	var kids []int
	for at := range l {
		if !slices.ContainsFunc(l, func(n api.Node) bool { return slices.Contains(n.Kids, at) }) {
			kids = append(kids, at)
		}
	}
	if len(kids) > 1 {
		l = append(l, choice(7, kids...))
	}
	s, _ := canon.Canon(made(l...))
	return s
}

// breakScene makes something wrong with a scene, mostly.
func (r source) breakScene(s *api.Scene) {
	at := r.next(len(s.Nodes))
	n := &s.Nodes[at]
	switch r.next(9) {
	case 0:
		n.Kind = r.next(11) - 1
	case 1:
		n.Ints = slices.Repeat([]int64{-1 << 50}, len(n.Ints)+r.next(2))
	case 2:
		n.Texts = slices.Repeat([]string{"\xc3"}, len(n.Texts)+r.next(2))
	case 3:
		n.Kids = append(n.Kids, r.next(len(s.Nodes)+2)-1)
	case 4:
		n.Kids = slices.Repeat([]int{r.next(len(s.Nodes))}, len(n.Kids))
	case 5:
		s.Root = r.next(len(s.Nodes)+2) - 1
	case 6:
		s.Nodes = append(s.Nodes, light(0, 0, 0, 0))
	case 7:
		slices.Reverse(n.Kids)
	default:
		*n = r.node(at)
	}
}

// reorder exchanges kids, nodes or texts of a scene, or adds some, such that each kid still stands ahead, and tells its bytes then.
func (r source) reorder(s api.Scene) (string, string) {
	table := plainTable(s)
	switch r.next(6) {
	case 0:
		slices.Reverse(s.Nodes[r.next(len(s.Nodes))].Kids)
	case 1:
		table = append(table, "unused")
	case 2:
		slices.Reverse(table)
	case 3:
		table = append(slices.Clone(table[:len(table)/2]), append([]string{"unused"}, table[len(table)/2:]...)...)
	case 4:
		at := r.next(len(s.Nodes))
		s.Nodes[at] = r.node(at)
		table = append(table, "", "a", "b", "ab", "\u20ac", "e\u0301", "\x00", "\U0010ffff")
		slices.Sort(table)
		table = slices.Compact(table)
	default:
		s.Nodes = append(s.Nodes, choice(0, len(s.Nodes)-1))
	}
	return plainTextBytes(table), plainNodeBytes(s, table)
}

// breakBytes makes something wrong with bytes, mostly.
func (r source) breakBytes(b string) string {
	at := r.next(len(b) + 1)
	switch r.next(4) {
	case 0:
		return b[:at]
	case 1:
		return b[:at] + []string{"\x00", "\x80", "\xff", mostBytes, aboveBytes}[r.next(5)] + b[at:]
	case 2:
		return b[:at] + b[min(at+1, len(b)):]
	}
	return b[:at] + string([]byte{byte(r.next(12))}) + b[min(at+1, len(b)):]
}

// limits are a scene's own, mostly, or one more or less of one of them.
func (r source) limits(s api.Scene) api.Limits {
	l := limit.Measure(s)
	if r.next(2) == 0 {
		*parts(&l)[r.next(5)] += r.next(3) - 1
	}
	return l
}

// checkSource holds both calls against the promises' words, on what a source makes; it tells what they tell of what is broken.
func checkSource(t *testing.T, r source) (api.Errno, api.Errno) {
	t.Helper()
	s := r.scene()
	if e := checkScene(t, s); e != api.OK {
		t.Errorf("%s: %d", brief(s), e)
	}
	table := plainTable(s)
	texts, nodes := plainTextBytes(table), plainNodeBytes(s, table)
	l := r.limits(s)
	checkBytes(t, texts, nodes, l)
	var got api.Errno
	switch r.next(3) {
	case 0:
		got = checkBytes(t, r.breakBytes(texts), nodes, l)
	case 1:
		got = checkBytes(t, texts, r.breakBytes(nodes), l)
	default:
		texts, nodes = r.reorder(marked(s))
		l.Text += 20
		got = checkBytes(t, texts, nodes, l)
	}
	broken := marked(s)
	r.breakScene(&broken)
	return checkScene(t, broken), got
}

// P14.1 to P14.3
func TestManyScenes(t *testing.T) {
	r := source{rand.New(rand.NewSource(1)).Intn}
	put, got := map[api.Errno]int{}, map[api.Errno]int{}
	for range 30000 {
		p, g := checkSource(t, r)
		put[p]++
		got[g]++
		if t.Failed() {
			return
		}
	}
	for _, e := range []api.Errno{api.OK, api.ErrKind, api.ErrField, api.ErrText, api.ErrKids, api.ErrRef, api.ErrCycle, api.ErrLoose, api.ErrOrder} {
		if put[e] < 50 {
			t.Errorf("only %d scenes of %d", put[e], e)
		}
	}
	for e := api.OK; e <= api.ErrLimit; e++ {
		switch e {
		case api.ErrForm, api.ErrCrc, api.ErrMagic, api.ErrVersion, api.ErrCycle:
			continue
		}
		if got[e] < 50 {
			t.Errorf("only %d pairs of texts and nodes of %d", got[e], e)
		}
	}
}

// P14.1 to P14.3: whatever scenes and bytes are made of these bytes.
func FuzzAll(f *testing.F) {
	f.Add([]byte{})
	f.Add([]byte("\x03\x00\x01\x00\x02\x01\x01\x00\x01\x02\x03\x01\x00\x02\x01\x05\x02\x01"))
	f.Add([]byte("\x08\x05\x03\x02\x01\x00\x03\x01\x05\x04\x02\x01\x00\x02\x01\x03\x02\x01\x01\x00\x05"))
	f.Fuzz(func(t *testing.T, b []byte) {
		at := 0
		checkSource(t, source{func(n int) int {
			at++
			if at > len(b) {
				return 0
			}
			return int(b[at-1]) % n
		}})
	})
}

// P14.2, P14.3: whatever the bytes are, there is an error alone, or a scene that is put as it was.
func FuzzGet(f *testing.F) {
	for _, x := range spellings() {
		m := limit.Measure(x.s)
		f.Add(x.texts, x.nodes, m.Nodes, m.Edges, m.Depth, m.Text)
	}
	f.Fuzz(func(t *testing.T, texts, nodes string, count, edges, depth, text int) {
		checkBytes(t, texts, nodes, api.Limits{Nodes: count, Edges: edges, Depth: depth, Text: text})
	})
}

// checkGreat wants a great scene to be put and got within its measure, and to be refused within less.
func checkGreat(t *testing.T, s api.Scene) {
	t.Helper()
	texts, nodes, e := Put(s)
	if e != api.OK {
		t.Fatalf("Put: %d", e)
	}
	m := limit.Measure(s)
	if got, e := Get(texts, nodes, m); e != api.OK || !same(got, s) {
		t.Errorf("Get: %d", e)
	}
	for _, part := range parts(&m) {
		if *part > 0 {
			*part--
			if got, e := Get(texts, nodes, m); e != api.ErrLimit || len(got.Nodes) > 0 || got.Root != 0 {
				t.Errorf("Get within less: %d", e)
			}
			*part++
		}
	}
}

// P14.1 to P14.3: very many nodes, ways down and levels.
func TestGreatScenes(t *testing.T) {
	const count = 1 << 16
	deep, doubled, wide := []api.Node{ball(0, "a")}, []api.Node{ball(0, "a")}, []api.Node{}
	var kids []int
	for at := range count {
		deep = append(deep, move(0, 0, 0, at))
		doubled = append(doubled, choice(0, at, at))
		wide = append(wide, ball(int64(at), strings.Repeat("x", at%100)+string(rune('a'+at%26))))
		kids = append(kids, at)
	}
	checkGreat(t, made(deep...))
	checkGreat(t, made(doubled...))
	checkGreat(t, made(append(wide, group("all", kids...))...))
}
