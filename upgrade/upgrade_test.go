package upgrade

import (
	"math"
	"math/rand"
	"slices"
	"strings"
	"testing"
	"unicode/utf8"

	"diorama/api"
	"diorama/canon"
	"diorama/graph"
	"diorama/limit"
	"diorama/old"
	"diorama/unfold"
)

// forest is nodes, of which the first one is the root.
func forest(nodes ...api.Node) api.Scene {
	return api.Scene{Nodes: nodes}
}

func group(kids ...int) api.Node {
	return api.Node{Kind: api.OGroup, Kids: kids}
}

func trans(kid int) api.Node {
	return api.Node{Kind: api.OTrans, Ints: []int64{-1, 0, 1, 65536}, Kids: []int{kid}}
}

func cube(material string) api.Node {
	return api.Node{Kind: api.OCube, Ints: []int64{5}, Texts: []string{material}}
}

func sphere(material string) api.Node {
	return api.Node{Kind: api.OSphere, Ints: []int64{6}, Texts: []string{material}}
}

func text(s string) api.Node {
	return api.Node{Kind: api.OText, Texts: []string{s}}
}

func lamp() api.Node {
	return api.Node{Kind: api.OLamp, Ints: []int64{9}}
}

// ordinary is a node of each kind, from kind 1 on, of which nothing is wrong where kid is a place.
func ordinary(kid int) []api.Node {
	return []api.Node{group(kid, kid), trans(kid), cube("wood"), sphere("wood"), text("text"), lamp()}
}

func sameNode(a, b api.Node) bool {
	return a.Kind == b.Kind && slices.Equal(a.Ints, b.Ints) && slices.Equal(a.Texts, b.Texts) && slices.Equal(a.Kids, b.Kids)
}

func same(a, b api.Scene) bool {
	return a.Root == b.Root && slices.EqualFunc(a.Nodes, b.Nodes, sameNode)
}

// moved is a scene whose node at a place stands at another one, by to; the same scene, in another order. What is no place stays as it is.
func moved(s api.Scene, to []int) api.Scene {
	place := func(at int) int {
		if at < 0 || at >= len(to) {
			return at
		}
		return to[at]
	}
	out := api.Scene{Nodes: make([]api.Node, len(s.Nodes)), Root: place(s.Root)}
	for at, n := range s.Nodes {
		var kids []int
		for _, kid := range n.Kids {
			kids = append(kids, place(kid))
		}
		out.Nodes[to[at]] = api.Node{Kind: n.Kind, Ints: n.Ints, Texts: n.Texts, Kids: kids}
	}
	return out
}

// rising are the places from the first one on.
func rising(count int) []int {
	l := make([]int, count)
	for at := range l {
		l[at] = at
	}
	return l
}

// falling are the places from the last one on.
func falling(count int) []int {
	l := rising(count)
	slices.Reverse(l)
	return l
}

// orders are all orders of so many places.
func orders(count int) [][]int {
	if count == 0 {
		return [][]int{nil}
	}
	var l [][]int
	for _, o := range orders(count - 1) {
		for at := range count {
			l = append(l, slices.Insert(slices.Clone(o), at, count-1))
		}
	}
	return l
}

// mark is what lies in the spare room behind the lists that marked makes.
const mark = 77

// roomy is a list with two marks in the spare room behind it.
func roomy[T any](l []T, m T) []T {
	return append(append(make([]T, 0, len(l)+2), l...), m, m)[:len(l)]
}

// markedRoom tells whether a list has still its marks behind it.
func markedRoom[T comparable](l []T, m T) bool {
	return slices.Equal(l[len(l):cap(l)][:2], []T{m, m})
}

// marked is a scene like s, with marks in the spare room behind all its lists.
func marked(s api.Scene) api.Scene {
	nodes := make([]api.Node, 0, len(s.Nodes)+1)
	for _, n := range s.Nodes {
		nodes = append(nodes, api.Node{Kind: n.Kind, Ints: roomy(n.Ints, mark), Texts: roomy(n.Texts, "mark"), Kids: roomy(n.Kids, mark)})
	}
	nodes[:cap(nodes)][len(nodes)].Kind = mark
	return api.Scene{Nodes: nodes, Root: s.Root}
}

// checkMarked wants a scene that marked made of s to be still as it was, its spare room too.
func checkMarked(t *testing.T, what string, x, s api.Scene) {
	t.Helper()
	ok := same(x, s) && sameNode(x.Nodes[:len(x.Nodes)+1][len(x.Nodes)], api.Node{Kind: mark})
	for _, n := range x.Nodes {
		ok = ok && markedRoom(n.Ints, mark) && markedRoom(n.Texts, "mark") && markedRoom(n.Kids, mark)
	}
	if !ok {
		t.Errorf("%s: what was handed in became %.300v, from %.300v", what, x, s)
	}
}

// spoil changes all that a scene's lists hold, their spare room too.
func spoil(s api.Scene) {
	for _, n := range s.Nodes {
		spoilNode(n)
	}
	clear(s.Nodes[:cap(s.Nodes)])
}

func spoilNode(n api.Node) {
	fill(n.Ints, -99)
	fill(n.Texts, "spoilt")
	fill(n.Kids, -99)
}

// fill lays x wherever a list has room.
func fill[T any](l []T, x T) {
	for i := range l[:cap(l)] {
		l[:cap(l)][i] = x
	}
}

// checkNode wants Node to tell these nodes, in new memory.
func checkNode(t *testing.T, n api.Node, want ...api.Node) {
	t.Helper()
	x := marked(forest(n))
	got, e := Node(x.Nodes[0])
	kept, _ := Node(x.Nodes[0])
	if e != api.OK || !slices.EqualFunc(got, want, sameNode) {
		t.Errorf("Node(%.300v): %.300v, %d, not %.300v", n, got, e, want)
	}
	checkMarked(t, "Node", x, forest(n))
	for i, m := range got {
		if i < len(want) && !sameNode(m, want[i]) {
			t.Errorf("Node(%.300v): node %d became %v, as another one was changed", n, i, m)
		}
		spoilNode(m)
	}
	spoil(api.Scene{Nodes: got})
	checkMarked(t, "Node's answer, changed", x, forest(n))
	spoil(x)
	if !slices.EqualFunc(kept, want, sameNode) {
		t.Errorf("Node(%.300v): it became %.300v, as the node or another answer was changed", n, kept)
	}
}

// checkNoNode wants Node to tell this error, and nothing else.
func checkNoNode(t *testing.T, n api.Node, e api.Errno) {
	t.Helper()
	x := marked(forest(n))
	for range 2 {
		if got, gotE := Node(x.Nodes[0]); gotE != e || len(got) != 0 {
			t.Errorf("Node(%.300v): %.300v, %d, not error %d", n, got, gotE, e)
		}
	}
	checkMarked(t, "Node", x, forest(n))
}

// checkUp wants Up to tell this scene, in new memory.
func checkUp(t *testing.T, s, want api.Scene) {
	t.Helper()
	x := marked(s)
	got, e := Up(x)
	kept, _ := Up(x)
	if e != api.OK || !same(got, want) {
		t.Errorf("Up(%.300v): %.300v, %d, not %.300v", s, got, e, want)
	}
	checkMarked(t, "Up", x, s)
	for at, n := range got.Nodes {
		if at < len(want.Nodes) && !sameNode(n, want.Nodes[at]) {
			t.Errorf("Up(%.300v): node %d became %v, as another one was changed", s, at, n)
		}
		spoilNode(n)
	}
	spoil(got)
	checkMarked(t, "Up's answer, changed", x, s)
	spoil(x)
	if !same(kept, want) {
		t.Errorf("Up(%.300v): it became %.300v, as the scene or another answer was changed", s, kept)
	}
}

// checkNoUp wants Up to tell this error, and nothing else.
func checkNoUp(t *testing.T, s api.Scene, e api.Errno) {
	t.Helper()
	x := marked(s)
	for range 2 {
		if got, gotE := Up(x); gotE != e || len(got.Nodes) != 0 || got.Root != 0 {
			t.Errorf("Up(%.300v): %.300v, %d, not error %d", s, got, gotE, e)
		}
	}
	checkMarked(t, "Up", x, s)
}

// spoilt is a way to make a node wrong, and what is told of it then.
type spoilt struct {
	what string
	do   func(n *api.Node)
	e    api.Errno
}

// spoilts are ways that make a cube, or a sphere, wrong.
func spoilts() []spoilt {
	return []spoilt{
		{"a number more", func(n *api.Node) { n.Ints = append(n.Ints, 0) }, api.ErrField},
		{"a number less", func(n *api.Node) { n.Ints = n.Ints[1:] }, api.ErrField},
		{"a number below its class", func(n *api.Node) { n.Ints[0] = -1 }, api.ErrField},
		{"a number above its class", func(n *api.Node) { n.Ints[0] = 1<<47 + 1 }, api.ErrField},
		{"a text more", func(n *api.Node) { n.Texts = append(n.Texts, "") }, api.ErrText},
		{"a text less", func(n *api.Node) { n.Texts = n.Texts[1:] }, api.ErrText},
		{"not UTF-8", func(n *api.Node) { n.Texts[0] = "a\xc3" }, api.ErrText},
		{"a kid", func(n *api.Node) { n.Kids = []int{0} }, api.ErrKids},
	}
}

// one is what a node becomes that becomes one node: its kind, its texts and its numbers.
func one(kind int, texts []string, ints ...int64) api.Node {
	return api.Node{Kind: kind, Ints: ints, Texts: texts}
}

// over is a node with these kids.
func over(n api.Node, kids ...int) api.Node {
	n.Kids = kids
	return n
}

// moves and scales are what trans becomes, lights what lamp becomes, and so on; all without kids.
func moves() api.Node  { return one(api.KMove, nil, -1, 0, 1) }
func scales() api.Node { return one(api.KScale, nil, 65536, 65536, 65536) }
func lights() api.Node { return one(api.KLight, nil, 9, 9, 9, 1) }
func groups() api.Node { return one(api.KGroup, []string{""}) }

func boxes(material string) api.Node { return one(api.KBox, []string{material}, 5, 5, 5) }
func balls(material string) api.Node { return one(api.KBall, []string{material}, 6) }
func labels(text string) api.Node    { return one(api.KLabel, []string{text, "sans"}, 65536) }

// P18.2: the chapter's example, and example 6 of the whole.
func TestExamples(t *testing.T) {
	want := api.Scene{Nodes: []api.Node{lights(), over(scales(), 0), over(moves(), 1)}, Root: 2}
	checkUp(t, forest(trans(1), lamp()), want)
	checkUp(t, api.Scene{Nodes: []api.Node{lamp(), trans(0)}, Root: 1}, want)
}

// P18.1: what a node of each kind becomes.
func TestNodeOfEachKind(t *testing.T) {
	want := [][]api.Node{
		{over(groups(), 3, 3)},
		{over(moves(), 0), over(scales(), 3)},
		{boxes("wood")},
		{balls("wood")},
		{labels("text")},
		{lights()},
	}
	for i, n := range ordinary(3) {
		if n.Kind != i+1 {
			t.Fatalf("kind %d at %d", n.Kind, i)
		}
		checkNode(t, n, want[i]...)
	}
}

// P18.1: each number and each text has its own place then; those of two lists alike are two.
func TestNodeOfOtherFields(t *testing.T) {
	for _, n := range []int64{-1 << 47, -1, 0, 1, 2, 65536, 1 << 47} {
		checkNode(t, over(one(api.OTrans, nil, n, 3, 4, 5), 6), over(one(api.KMove, nil, n, 3, 4), 0), over(one(api.KScale, nil, 5, 5, 5), 6))
		checkNode(t, over(one(api.OTrans, nil, 3, n, 4, 5), 6), over(one(api.KMove, nil, 3, n, 4), 0), over(one(api.KScale, nil, 5, 5, 5), 6))
		checkNode(t, over(one(api.OTrans, nil, 3, 4, n, 5), 6), over(one(api.KMove, nil, 3, 4, n), 0), over(one(api.KScale, nil, 5, 5, 5), 6))
		checkNode(t, over(one(api.OTrans, nil, 3, 4, 5, n), 6), over(one(api.KMove, nil, 3, 4, 5), 0), over(one(api.KScale, nil, n, n, n), 6))
	}
	for _, n := range []int64{0, 1, 65535, 1 << 47} {
		for _, s := range []string{"", "a", "sans", "a\x00b", "\u20ac", "\ufffd", "\U0010ffff", strings.Repeat("wood", 1000)} {
			checkNode(t, one(api.OCube, []string{s}, n), one(api.KBox, []string{s}, n, n, n))
			checkNode(t, one(api.OSphere, []string{s}, n), one(api.KBall, []string{s}, n))
			checkNode(t, text(s), labels(s))
		}
	}
	for n := range int64(256) {
		checkNode(t, one(api.OLamp, nil, n), one(api.KLight, nil, n, n, n, 1))
	}
}

// P18.1: the kids of the last node are as they were, whatever places they are.
func TestNodeKeepsKids(t *testing.T) {
	for _, kids := range [][]int{nil, {}, {0}, {1}, {-1}, {math.MinInt, math.MaxInt}, {3, 1, 2, 1}, rising(1000), falling(1000)} {
		checkNode(t, group(kids...), over(groups(), kids...))
	}
	for _, kid := range []int{math.MinInt, -1, 0, 1, 2, math.MaxInt} {
		checkNode(t, trans(kid), over(moves(), 0), over(scales(), kid))
	}
}

// P18.1: the kinds of version 1 alone.
func TestNodeOfNoKind(t *testing.T) {
	for _, kind := range []int{math.MinInt, math.MinInt32, -1, 0, 7, 8, 9, 255, 256, 257, 1<<32 + 1, math.MaxInt} {
		for _, n := range append(ordinary(0), api.Node{}, api.Node{Ints: []int64{-1}, Texts: []string{"\xff"}, Kids: []int{-1, 9}}) {
			n.Kind = kind
			checkNoNode(t, n, api.ErrKind)
			checkNoUp(t, forest(n), api.ErrKind)
			checkNoUp(t, forest(group(1), n), api.ErrKind)
		}
	}
}

// P18.1: a node that is right by version 2 is held against version 1's Spec of its number.
func TestNodeOfVersion2(t *testing.T) {
	for _, x := range []struct {
		n api.Node
		e api.Errno
	}{
		{groups(), api.ErrText},
		{over(moves(), 1), api.ErrField},
		{boxes("wood"), api.ErrField},
		{labels("text"), api.ErrField},
		{one(api.KSwitch, nil, -1), api.ErrField},
		{over(one(api.KSwitch, nil, 1), 1), api.ErrKids},
		{lights(), api.ErrKind},
		{over(scales(), 1), api.ErrKind},
	} {
		if e, _ := limit.Typed(forest(x.n)); e != api.OK {
			t.Fatalf("limit.Typed(%v): %d", x.n, e)
		}
		checkNoNode(t, x.n, x.e)
		checkNoUp(t, forest(x.n, lamp()), x.e)
	}
	checkNode(t, balls("wood"), balls("wood"))
	checkNode(t, one(api.KSwitch, nil, 1), one(api.KLight, nil, 1, 1, 1, 1))
}

// P18.1: field.Check's errors; of several the one that is named first.
func TestNodeOfWrongFields(t *testing.T) {
	for _, fresh := range []func(string) api.Node{cube, sphere} {
		for _, a := range spoilts() {
			n := fresh("wood")
			a.do(&n)
			checkNoNode(t, n, a.e)
			checkNoUp(t, forest(n), a.e)
			for _, b := range spoilts() {
				if a.e < b.e {
					m := fresh("wood")
					b.do(&m)
					a.do(&m)
					checkNoNode(t, m, a.e)
					m.Kind = 7
					checkNoNode(t, m, api.ErrKind)
				}
			}
		}
	}
}

// P18.1: just outside the classes, and how many numbers, texts and kids there may be.
func TestNodeBeyondTheEdges(t *testing.T) {
	for _, x := range []struct {
		n api.Node
		e api.Errno
	}{
		{one(api.OGroup, nil, 0), api.ErrField},
		{one(api.OGroup, []string{""}), api.ErrText},
		{over(one(api.OTrans, nil, -1<<47-1, 0, 0, 0), 0), api.ErrField},
		{over(one(api.OTrans, nil, 0, 1<<47+1, 0, 0), 0), api.ErrField},
		{over(one(api.OTrans, nil, 0, 0, math.MaxInt64, 0), 0), api.ErrField},
		{over(one(api.OTrans, nil, 0, 0, 0, math.MinInt64), 0), api.ErrField},
		{over(one(api.OTrans, nil, 0, 0, 0), 0), api.ErrField},
		{over(one(api.OTrans, nil, 0, 0, 0, 0, 0), 0), api.ErrField},
		{over(one(api.OTrans, []string{""}, 0, 0, 0, 0), 0), api.ErrText},
		{one(api.OTrans, nil, 0, 0, 0, 0), api.ErrKids},
		{over(one(api.OTrans, nil, 0, 0, 0, 0), 0, 0), api.ErrKids},
		{one(api.OCube, []string{""}), api.ErrField},
		{one(api.OCube, []string{"\xed\xa0\x80"}, 0), api.ErrText},
		{one(api.OSphere, nil, 0), api.ErrText},
		{one(api.OText, nil), api.ErrText},
		{one(api.OText, []string{"a", "b"}), api.ErrText},
		{one(api.OText, []string{"\xf4\x90\x80\x80"}), api.ErrText},
		{one(api.OText, []string{"a"}, 1), api.ErrField},
		{over(text("a"), 0), api.ErrKids},
		{one(api.OLamp, nil), api.ErrField},
		{one(api.OLamp, nil, -1), api.ErrField},
		{one(api.OLamp, nil, 256), api.ErrField},
		{one(api.OLamp, nil, 1, 1), api.ErrField},
		{one(api.OLamp, []string{""}, 1), api.ErrText},
		{over(lamp(), 0), api.ErrKids},
	} {
		checkNoNode(t, x.n, x.e)
		checkNoUp(t, forest(x.n), x.e)
		checkNoUp(t, forest(group(1, 2), lamp(), x.n), x.e)
	}
}

// P18.2: a scene of one node of each kind, and of such a one below others.
func TestUpOfEachKind(t *testing.T) {
	want := []api.Node{boxes("wood"), balls("wood"), labels("text"), lights()}
	for i, n := range ordinary(0)[2:] {
		checkUp(t, forest(n), forest(want[i]))
		checkUp(t, forest(group(1, 1), n), api.Scene{Nodes: []api.Node{want[i], over(groups(), 0, 0)}, Root: 1})
		checkUp(t, forest(trans(1), trans(2), n), api.Scene{Nodes: []api.Node{want[i], over(scales(), 0), over(moves(), 1), over(scales(), 2), over(moves(), 3)}, Root: 4})
	}
	checkUp(t, forest(group()), forest(groups()))
	checkUp(t, forest(trans(1), group()), api.Scene{Nodes: []api.Node{groups(), over(scales(), 0), over(moves(), 1)}, Root: 2})
}

// P18.2, P18.3: who had a node as a kid has the upper one; what is shared stays so, what is alike stays apart.
func TestUpOfShared(t *testing.T) {
	checkUp(t, forest(group(2, 1, 2), trans(3), trans(3), lamp()), api.Scene{Nodes: []api.Node{
		lights(), over(scales(), 0), over(moves(), 1), over(scales(), 0), over(moves(), 3), over(groups(), 2, 4, 2),
	}, Root: 5})
	checkUp(t, forest(group(2, 1, 3), trans(2), trans(3), lamp()), api.Scene{Nodes: []api.Node{
		lights(), over(scales(), 0), over(moves(), 1), over(scales(), 2), over(moves(), 3), over(groups(), 2, 4, 0),
	}, Root: 5})
	checkUp(t, forest(group(1, 2, 1, 3), lamp(), lamp(), group(1, 2, 2)), api.Scene{Nodes: []api.Node{
		lights(), lights(), over(groups(), 0, 1, 1), over(groups(), 0, 1, 0, 2),
	}, Root: 3})
	checkUp(t, forest(group(1, 1, 2), trans(3), trans(1), group(4, 5, 4), text("a"), text("a")), api.Scene{Nodes: []api.Node{
		labels("a"), labels("a"), over(groups(), 0, 1, 0), over(scales(), 2), over(moves(), 3), over(scales(), 4), over(moves(), 5), over(groups(), 4, 4, 6),
	}, Root: 7})
}

// P18.2: nodes whose lists are one in memory have lists of their own then.
func TestListsInOneRoom(t *testing.T) {
	kids, ints, texts := []int{3, 2, 3}, []int64{1, 2, 3, 4}, []string{"a", "b", "c"}
	s := forest(over(group(), kids...), group(2, 3, 4, 5), api.Node{Kind: api.OTrans, Ints: ints, Kids: kids[:1]}, api.Node{Kind: api.OSphere, Ints: ints[1:2], Texts: texts[1:2]}, api.Node{Kind: api.OCube, Ints: ints[1:2], Texts: texts[1:2]}, api.Node{Kind: api.OText, Ints: ints[:0], Texts: texts[1:2], Kids: kids[:0]})
	s.Root = 1
	s.Nodes[1].Kids = append(s.Nodes[1].Kids, 0)
	want := api.Scene{Nodes: []api.Node{
		one(api.KBall, []string{"b"}, 2),
		over(one(api.KScale, nil, 4, 4, 4), 0),
		over(one(api.KMove, nil, 1, 2, 3), 1),
		one(api.KBox, []string{"b"}, 2, 2, 2),
		labels("b"),
		over(groups(), 0, 2, 0),
		over(groups(), 2, 0, 3, 4, 5),
	}, Root: 6}
	got, e := Up(s)
	if e != api.OK || !same(got, want) {
		t.Errorf("%v, %d, not %v", got, e, want)
	}
	for at, n := range got.Nodes {
		if !sameNode(n, want.Nodes[at]) {
			t.Errorf("node %d became %v, as another one was changed", at, n)
		}
		n.Ints = append(n.Ints, 9, 9)
		n.Texts = append(n.Texts, "9", "9")
		n.Kids = append(n.Kids, 9, 9)
		spoilNode(got.Nodes[at])
	}
	if !slices.Equal(kids, []int{3, 2, 3}) || !slices.Equal(ints, []int64{1, 2, 3, 4}) || !slices.Equal(texts, []string{"a", "b", "c"}) {
		t.Errorf("the lists became %v, %v, %v", kids, ints, texts)
	}
}

// P18.2: graph.Check's errors.
func TestUpOfWrongGraphs(t *testing.T) {
	for _, x := range []struct {
		s api.Scene
		e api.Errno
	}{
		{api.Scene{}, api.ErrRef},
		{api.Scene{Nodes: []api.Node{}}, api.ErrRef},
		{api.Scene{Root: -1}, api.ErrRef},
		{api.Scene{Nodes: []api.Node{lamp()}, Root: 1}, api.ErrRef},
		{api.Scene{Nodes: []api.Node{lamp()}, Root: -1}, api.ErrRef},
		{api.Scene{Nodes: []api.Node{trans(1), lamp()}, Root: 2}, api.ErrRef},
		{api.Scene{Nodes: []api.Node{trans(1), lamp()}, Root: math.MaxInt}, api.ErrRef},
		{api.Scene{Nodes: []api.Node{trans(1), lamp()}, Root: math.MinInt}, api.ErrRef},
		{forest(trans(2), lamp()), api.ErrRef},
		{forest(trans(-1), lamp()), api.ErrRef},
		{forest(group(1, 2), trans(3), lamp()), api.ErrRef},
		{forest(group(1, math.MaxInt), lamp()), api.ErrRef},
		{forest(group(math.MinInt, 1), lamp()), api.ErrRef},
		{forest(group(0)), api.ErrCycle},
		{forest(trans(0)), api.ErrCycle},
		{forest(trans(1), trans(0)), api.ErrCycle},
		{forest(lamp(), trans(1)), api.ErrCycle},
		{forest(group(1), trans(2), group(3, 1), lamp()), api.ErrCycle},
		{forest(lamp(), lamp()), api.ErrLoose},
		{forest(lamp(), trans(0)), api.ErrLoose},
		{forest(trans(2), lamp(), lamp()), api.ErrLoose},
		{api.Scene{Nodes: []api.Node{trans(1), lamp()}, Root: 1}, api.ErrLoose},
	} {
		if e, _ := graph.Check(x.s); e != x.e {
			t.Fatalf("graph.Check(%v): %d", x.s, e)
		}
		checkNoUp(t, x.s, x.e)
	}
}

// P18.2: of several wrong nodes the first one's error, and that ahead of what is wrong with how nodes lead to each other.
func TestUpTellsTheFirst(t *testing.T) {
	kids, wrong, number, kind := trans(0), text("\xff"), lamp(), api.Node{}
	kids.Kids, number.Ints = nil, nil
	l := []struct {
		n api.Node
		e api.Errno
	}{{kids, api.ErrKids}, {wrong, api.ErrText}, {number, api.ErrField}, {kind, api.ErrKind}}
	for _, a := range l {
		for _, b := range l {
			checkNoUp(t, forest(a.n, b.n), a.e)
			checkNoUp(t, forest(group(4, 3, 2, 1), lamp(), a.n, lamp(), b.n), a.e)
			checkNoUp(t, api.Scene{Nodes: []api.Node{group(-1), trans(1), lamp(), a.n, b.n}, Root: -9}, a.e)
		}
	}
}

// P18.3: each order of the nodes becomes the same.
func TestUpOfEachOrder(t *testing.T) {
	s := forest(group(2, 1, 4), trans(3), trans(3), group(5, 4, 5), lamp(), cube("wood"))
	want := api.Scene{Nodes: []api.Node{
		boxes("wood"), lights(), over(groups(), 0, 1, 0), over(scales(), 2), over(moves(), 3), over(scales(), 2), over(moves(), 5), over(groups(), 4, 6, 1),
	}, Root: 7}
	for _, to := range orders(6) {
		checkUp(t, moved(s, to), want)
	}
}

// between tells whether all numbers are from low to high.
func between(l []int64, low, high int64) bool {
	return !slices.ContainsFunc(l, func(n int64) bool { return n < low || n > high })
}

// plainNode is what is wrong with a node by the words of chapters 7, 8, 12 and 16.
func plainNode(n api.Node) api.Errno {
	numbers, texts := []int{0, 0, 4, 1, 1, 0, 1}, []int{0, 0, 0, 1, 1, 1, 0}
	if n.Kind < 1 || n.Kind > 6 {
		return api.ErrKind
	}
	ok, count := len(n.Ints) == numbers[n.Kind], len(n.Kids) == 0
	switch n.Kind {
	case api.OGroup:
		count = true
	case api.OTrans:
		ok, count = ok && between(n.Ints, -1<<47, 1<<47), len(n.Kids) == 1
	case api.OCube, api.OSphere:
		ok = ok && between(n.Ints, 0, 1<<47)
	case api.OLamp:
		ok = ok && between(n.Ints, 0, 255)
	}
	switch {
	case !ok:
		return api.ErrField
	case len(n.Texts) != texts[n.Kind] || slices.ContainsFunc(n.Texts, func(s string) bool { return !utf8.ValidString(s) }):
		return api.ErrText
	case !count:
		return api.ErrKids
	}
	return api.OK
}

// plainRow is what a node of which nothing is wrong becomes, by the chapter's words: the upper one first, its last one with the node's kids.
func plainRow(n api.Node) []api.Node {
	switch n.Kind {
	case api.OGroup:
		return []api.Node{{Kind: 1, Texts: []string{""}, Kids: n.Kids}}
	case api.OTrans:
		return []api.Node{{Kind: 2, Ints: n.Ints[:3], Kids: []int{0}}, {Kind: 8, Ints: slices.Repeat(n.Ints[3:], 3), Kids: n.Kids}}
	case api.OCube:
		return []api.Node{{Kind: 3, Ints: slices.Repeat(n.Ints, 3), Texts: n.Texts}}
	case api.OSphere:
		return []api.Node{{Kind: 4, Ints: n.Ints, Texts: n.Texts}}
	case api.OText:
		return []api.Node{{Kind: 5, Ints: []int64{65536}, Texts: []string{n.Texts[0], "sans"}}}
	}
	return []api.Node{{Kind: 7, Ints: append(slices.Repeat(n.Ints, 3), 1)}}
}

// plainUp is what a scene of which nothing is wrong becomes, by the words of chapters 10 and 18: the nodes that a node becomes have their places, the last one's first, as soon as all its kids have theirs.
func plainUp(s api.Scene) api.Scene {
	var nodes []api.Node
	uppers := slices.Repeat([]int{-1}, len(s.Nodes))
	var down func(at int)
	down = func(at int) {
		var kids []int
		for _, kid := range s.Nodes[at].Kids {
			if uppers[kid] < 0 {
				down(kid)
			}
			kids = append(kids, uppers[kid])
		}
		row := plainRow(s.Nodes[at])
		slices.Reverse(row)
		for _, n := range row {
			nodes = append(nodes, over(n, kids...))
			kids = []int{len(nodes) - 1}
		}
		uppers[at] = len(nodes) - 1
	}
	down(s.Root)
	return api.Scene{Nodes: nodes, Root: uppers[s.Root]}
}

// plainError is what is wrong with a scene, by the chapter's words.
func plainError(s api.Scene) api.Errno {
	for _, n := range s.Nodes {
		if e := plainNode(n); e != api.OK {
			return e
		}
	}
	e, _ := graph.Check(s)
	return e
}

// checkOutcome wants what a right scene becomes to be typed by version 2, to be canonical, and to have the nodes and the kids that come of it.
func checkOutcome(t *testing.T, s, u api.Scene) {
	t.Helper()
	if e, at := limit.Typed(u); e != api.OK {
		t.Errorf("Up(%.300v): %.300v, of which node %d is wrong: %d", s, u, at, e)
	}
	if !canon.Is(u) {
		t.Errorf("Up(%.300v): %.300v isn't canonical", s, u)
	}
	twice := 0
	for _, n := range s.Nodes {
		if n.Kind == api.OTrans {
			twice++
		}
	}
	if len(u.Nodes) != len(s.Nodes)+twice || graph.Edges(u) != graph.Edges(s)+twice {
		t.Errorf("Up(%.300v): %.300v, %d nodes of %d, %d kids of %d", s, u, len(u.Nodes), len(s.Nodes), graph.Edges(u), graph.Edges(s))
	}
}

// checkAlike wants a right scene to become what others become that have the same canonical one, and the same tree as one of another sharing.
func checkAlike(t *testing.T, s, u api.Scene, to []int) {
	t.Helper()
	ordered, _ := canon.Canon(s)
	flat, _ := old.Flat(s)
	for _, x := range []api.Scene{ordered, flat, moved(s, to)} {
		if got, e := Up(x); e != api.OK || !same(got, u) {
			t.Errorf("Up(%.300v): %.300v, but of %.300v: %.300v, %d", s, u, x, got, e)
		}
	}
	shared, _ := unfold.Share(s)
	if got, e := Up(shared); e != api.OK || !unfold.Equal(got, u) {
		t.Errorf("Up(%.300v): %.300v, but of %.300v: %.300v, %d, another tree", s, u, shared, got, e)
	}
}

// checkAll holds all calls with a scene against the promises' words; it tells what Up has to tell.
func checkAll(t *testing.T, s api.Scene, to []int) api.Errno {
	t.Helper()
	for _, n := range s.Nodes {
		if e := plainNode(n); e != api.OK {
			checkNoNode(t, n, e)
		} else {
			checkNode(t, n, plainRow(n)...)
		}
	}
	e := plainError(s)
	if e != api.OK {
		checkNoUp(t, s, e)
		return e
	}
	u := plainUp(s)
	checkUp(t, s, u)
	checkOutcome(t, s, u)
	checkAlike(t, s, u, to)
	return e
}

// wantMet wants each of these errors to be met so often.
func wantMet(t *testing.T, met map[api.Errno]int, count int, l ...api.Errno) {
	t.Helper()
	for _, e := range l {
		if met[e] < count {
			t.Errorf("only %d scenes of %d", met[e], e)
		}
	}
}

// kidLists are all lists of at most two places from least on.
func kidLists(least, most int) [][]int {
	l := [][]int{nil}
	for a := least; a <= most; a++ {
		l = append(l, []int{a})
		for b := least; b <= most; b++ {
			l = append(l, []int{a, b})
		}
	}
	return l
}

// P18.1 to P18.3: all scenes of at most two nodes out of some, with all roots.
func TestAllSmallScenes(t *testing.T) {
	some := []api.Node{lamp(), cube("a"), sphere("ab"), text("a"), text("\xff"), {}, {Kind: 7}, {Kind: api.OTrans}, {Kind: api.OTrans, Ints: []int64{0, 0, 0, 0}}, {Kind: api.OGroup, Texts: []string{"a"}}}
	for _, kids := range kidLists(-1, 2) {
		some = append(some, group(kids...))
	}
	for kid := -1; kid <= 2; kid++ {
		some = append(some, trans(kid))
	}
	met := map[api.Errno]int{}
	for root := -1; root <= 2; root++ {
		met[checkAll(t, api.Scene{Root: root}, nil)]++
		for _, a := range some {
			met[checkAll(t, api.Scene{Nodes: []api.Node{a}, Root: root}, []int{0})]++
			for _, b := range some {
				met[checkAll(t, api.Scene{Nodes: []api.Node{a, b}, Root: root}, []int{1, 0})]++
			}
		}
	}
	wantMet(t, met, 1, api.OK, api.ErrKind, api.ErrField, api.ErrText, api.ErrKids, api.ErrRef, api.ErrCycle, api.ErrLoose)
}

// P18.2, P18.3: all ways that four nodes may lead to each other, each with its kids rising, and falling; who has one kid is a trans.
func TestAllLinksOfFourNodes(t *testing.T) {
	right := 0
	for bits := range 1 << 17 {
		s := api.Scene{Nodes: []api.Node{group(), group(), group(), group()}, Root: bits % 4}
		for i := range 16 {
			if bits>>(i+1)&1 == 1 {
				s.Nodes[i/4].Kids = append(s.Nodes[i/4].Kids, i%4)
			}
		}
		for at, n := range s.Nodes {
			if bits&1 == 1 {
				slices.Reverse(n.Kids)
			}
			if len(n.Kids) == 1 {
				s.Nodes[at] = trans(n.Kids[0])
			}
		}
		e, _ := graph.Check(s)
		if e != api.OK {
			if u, got := Up(s); got != e || len(u.Nodes) != 0 || u.Root != 0 {
				t.Fatalf("Up(%v): %v, %d, not %d", s, u, got, e)
			}
			continue
		}
		right++
		checkAll(t, s, falling(4))
	}
	if right < 100 {
		t.Errorf("only %d right ones", right)
	}
}

// source makes scenes that are often right.
type source struct{ next func(n int) int }

// places are the places from 0 on, mixed.
func (r source) places(count int) []int {
	l := rising(count)
	for i := range l {
		j := r.next(i + 1)
		l[i], l[j] = l[j], l[i]
	}
	return l
}

func (r source) text() string {
	return []string{"", "a", "b", "ab", "abc", "\u20ac", "\u00e9", "a\u0301"}[r.next(8)]
}

// node has these kids, and a kind that lets it have so many.
func (r source) node(kids []int) api.Node {
	n := group()
	switch {
	case len(kids) == 1 && r.next(2) == 1:
		n = trans(0)
		n.Ints[r.next(4)] = int64(r.next(3)) - 1
	case len(kids) == 0 && r.next(5) > 0:
		n = []api.Node{cube(r.text()), sphere(r.text()), text(r.text()), lamp()}[r.next(4)]
	}
	n.Kids = kids
	return n
}

// scene has nothing wrong, and is forward.
func (r source) scene() api.Scene {
	count := 1 + r.next(10)
	kids := make([][]int, count)
	for at := range count - 1 {
		over := r.next(at + 1)
		kids[over] = append(kids[over], at+1)
		for range r.next(3) {
			kids[at] = append(kids[at], at+1+r.next(count-at-1))
		}
	}
	s := api.Scene{}
	for _, k := range kids {
		if r.next(2) == 1 {
			slices.Reverse(k)
		}
		s.Nodes = append(s.Nodes, r.node(k))
	}
	return s
}

// breakIt makes something wrong with a scene, mostly.
func (r source) breakIt(s *api.Scene) {
	n := &s.Nodes[r.next(len(s.Nodes))]
	switch r.next(9) {
	case 0:
		n.Kind = r.next(10) - 1
	case 1:
		n.Ints = append(slices.Clone(n.Ints), 0)
	case 2:
		n.Ints = slices.Repeat([]int64{-1 << 50}, len(n.Ints))
	case 3:
		n.Texts = append(slices.Clone(n.Texts), "more")
	case 4:
		n.Texts = slices.Repeat([]string{"\xc3"}, len(n.Texts))
	case 5:
		n.Kids = append(n.Kids, r.next(len(s.Nodes)+2)-1)
	case 6:
		n.Kids = nil
	case 7:
		s.Root = r.next(len(s.Nodes)+2) - 1
	default:
		s.Nodes = append(s.Nodes, lamp())
	}
}

// checkSource holds all calls against the promises' words, on what a source makes; it tells what Up tells.
func checkSource(t *testing.T, r source) api.Errno {
	t.Helper()
	s := r.scene()
	if _, e := Up(s); e != api.OK {
		t.Errorf("Up(%.300v): error %d", s, e)
	}
	if r.next(2) == 1 {
		s = moved(s, r.places(len(s.Nodes)))
	}
	for range r.next(3) {
		r.breakIt(&s)
	}
	return checkAll(t, s, r.places(len(s.Nodes)))
}

// P18.1 to P18.3
func TestManyScenes(t *testing.T) {
	r := source{rand.New(rand.NewSource(1)).Intn}
	met := map[api.Errno]int{}
	for range 10000 {
		met[checkSource(t, r)]++
		if t.Failed() {
			return
		}
	}
	wantMet(t, met, 50, api.OK, api.ErrKind, api.ErrField, api.ErrText, api.ErrKids, api.ErrRef, api.ErrCycle, api.ErrLoose)
}

// P18.1 to P18.3: whatever is handed in.
func FuzzAll(f *testing.F) {
	f.Add([]byte{})
	f.Add([]byte("\x03\x00\x01\x00\x02\x01\x01\x00\x01\x02\x03\x01\x00\x02\x01\x05\x02\x01"))
	f.Add([]byte("\x07\x01\x01\x01\x01\x02\x00\x00\x00\x01\x00\x01\x02\x01\x01\x00\x02\x00\x01\x07\x02\x01\x05\x00\x03"))
	f.Add([]byte("\x09\x00\x01\x02\x01\x00\x01\x03\x01\x04\x01\x00\x01\x02\x00\x04\x02\x01\x03\x02\x02\x01\x01\x03\x03\x03\x01\x08\x02"))
	f.Fuzz(func(t *testing.T, b []byte) {
		at := 0
		checkSource(t, source{func(n int) int {
			at++
			if at > len(b) {
				return 0
			}
			return int(b[at-1]) % n
		}})
	})
}

// checkGreat wants a great scene, which isn't told whole, to become this, as the same in the other order.
func checkGreat(t *testing.T, what string, s, want api.Scene) {
	t.Helper()
	for _, x := range []api.Scene{s, moved(s, falling(len(s.Nodes)))} {
		if got, e := Up(x); e != api.OK || !same(got, want) {
			t.Errorf("%s: another scene, or error %d", what, e)
		}
	}
	checkOutcome(t, s, want)
}

// P18.2, P18.3: ways down that are long.
func TestLongWays(t *testing.T) {
	const count = 1 << 16
	var s api.Scene
	for at := range count - 1 {
		s.Nodes = append(s.Nodes, trans(at+1))
	}
	s.Nodes = append(s.Nodes, text("end"))
	want := forest(labels("end"))
	for at := 0; at < 2*(count-1); at += 2 {
		want.Nodes = append(want.Nodes, over(scales(), at), over(moves(), at+1))
	}
	want.Root = 2 * (count - 1)
	checkGreat(t, "a chain", s, want)
	s.Nodes[count-1] = trans(0)
	if u, e := Up(s); e != api.ErrCycle || len(u.Nodes) != 0 {
		t.Errorf("a ring: %d", e)
	}
	s.Nodes[count-1].Kind = 7
	if u, e := Up(s); e != api.ErrKind || len(u.Nodes) != 0 {
		t.Errorf("a ring of which the last node has no kind: %d", e)
	}
}

// P18.2, P18.3: more ways down than could be gone one by one, and many nodes side by side.
func TestManyWays(t *testing.T) {
	const count = 5000
	var s api.Scene
	for at := range count {
		s.Nodes = append(s.Nodes, group(min(2*at+4, 2*count), 2*at+1, 2*at+1), trans(2*at+2))
	}
	s.Nodes = append(s.Nodes, cube("wood"))
	checkGreat(t, "a ladder", s, plainUp(s))
	wide, want := forest(group()), api.Scene{}
	for at := range count {
		name := strings.Repeat("\u20ac", at%100)
		wide.Nodes[0].Kids = append(wide.Nodes[0].Kids, at+1)
		wide.Nodes = append(wide.Nodes, text(name))
		want.Nodes = append(want.Nodes, labels(name))
	}
	want.Nodes = append(want.Nodes, over(groups(), rising(count)...))
	want.Root = count
	checkGreat(t, "a wide one", wide, want)
}
