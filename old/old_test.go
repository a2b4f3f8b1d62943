package old

import (
	"math"
	"math/rand"
	"slices"
	"strings"
	"testing"
	"unicode/utf8"

	"diorama/api"
	"diorama/canon"
	"diorama/graph"
	"diorama/limit"
)

// most is 2^24, the greatest number that a limit may be by the chapters' words.
const most = 16777216

// widest are the greatest limits that may be.
func widest() api.Limits {
	return api.Limits{Bytes: most, Nodes: most, Edges: most, Depth: most, Text: most}
}

// parts are the five of limits, to be changed one by one.
func parts(l *api.Limits) []*int {
	return []*int{&l.Bytes, &l.Nodes, &l.Edges, &l.Depth, &l.Text}
}

// made is nodes, of which the first one is the root.
func made(nodes ...api.Node) api.Scene {
	return api.Scene{Nodes: nodes}
}

func group(kids ...int) api.Node {
	return api.Node{Kind: api.OGroup, Kids: kids}
}

func trans(kid int) api.Node {
	return api.Node{Kind: api.OTrans, Ints: []int64{-1, 0, 1, 65536}, Kids: []int{kid}}
}

func cube(material string) api.Node {
	return api.Node{Kind: api.OCube, Ints: []int64{5}, Texts: []string{material}}
}

func sphere(material string) api.Node {
	return api.Node{Kind: api.OSphere, Ints: []int64{6}, Texts: []string{material}}
}

func text(s string) api.Node {
	return api.Node{Kind: api.OText, Texts: []string{s}}
}

func lamp() api.Node {
	return api.Node{Kind: api.OLamp, Ints: []int64{9}}
}

// ordinary is a node of each kind, from kind 1 on, of which nothing is wrong where kid is a place.
func ordinary(kid int) []api.Node {
	return []api.Node{group(kid, kid), trans(kid), cube("wood"), sphere("wood"), text("text"), lamp()}
}

// bare is nodes that have these kids, and nothing else.
func bare(root int, kids ...[]int) api.Scene {
	s := api.Scene{Root: root}
	for _, k := range kids {
		s.Nodes = append(s.Nodes, api.Node{Kids: k})
	}
	return s
}

// named is a scene whose nodes have fields that tell them apart, and that no kind has.
func named(s api.Scene) api.Scene {
	out := api.Scene{Root: s.Root}
	for at, n := range s.Nodes {
		out.Nodes = append(out.Nodes, api.Node{Kind: at*7 - 3, Ints: []int64{int64(at), math.MinInt64}, Texts: []string{string(rune('a' + at%26)), "\xff"}, Kids: n.Kids})
	}
	return out
}

func sameNode(a, b api.Node) bool {
	return a.Kind == b.Kind && slices.Equal(a.Ints, b.Ints) && slices.Equal(a.Texts, b.Texts) && slices.Equal(a.Kids, b.Kids)
}

func same(a, b api.Scene) bool {
	return a.Root == b.Root && slices.EqualFunc(a.Nodes, b.Nodes, sameNode)
}

// moved is a scene whose node at a place stands at another one, by to; the same scene, in another order. What is no place stays as it is.
func moved(s api.Scene, to []int) api.Scene {
	place := func(at int) int {
		if at < 0 || at >= len(to) {
			return at
		}
		return to[at]
	}
	out := api.Scene{Nodes: make([]api.Node, len(s.Nodes)), Root: place(s.Root)}
	for at, n := range s.Nodes {
		var kids []int
		for _, kid := range n.Kids {
			kids = append(kids, place(kid))
		}
		out.Nodes[to[at]] = api.Node{Kind: n.Kind, Ints: n.Ints, Texts: n.Texts, Kids: kids}
	}
	return out
}

// rising are the places from the first one on.
func rising(count int) []int {
	l := make([]int, count)
	for at := range l {
		l[at] = at
	}
	return l
}

// falling are the places from the last one on.
func falling(count int) []int {
	l := rising(count)
	slices.Reverse(l)
	return l
}

// orders are all orders of so many places.
func orders(count int) [][]int {
	if count == 0 {
		return [][]int{nil}
	}
	var l [][]int
	for _, o := range orders(count - 1) {
		for at := range count {
			l = append(l, slices.Insert(slices.Clone(o), at, count-1))
		}
	}
	return l
}

// mark is what lies in the spare room behind the lists that marked makes.
const mark = 77

// roomy is a list with two marks in the spare room behind it.
func roomy[T any](l []T, m T) []T {
	return append(append(make([]T, 0, len(l)+2), l...), m, m)[:len(l)]
}

// markedRoom tells whether a list has still its marks behind it.
func markedRoom[T comparable](l []T, m T) bool {
	return slices.Equal(l[len(l):cap(l)][:2], []T{m, m})
}

// marked is a scene like s, with marks in the spare room behind all its lists.
func marked(s api.Scene) api.Scene {
	nodes := make([]api.Node, 0, len(s.Nodes)+1)
	for _, n := range s.Nodes {
		nodes = append(nodes, api.Node{Kind: n.Kind, Ints: roomy(n.Ints, mark), Texts: roomy(n.Texts, "mark"), Kids: roomy(n.Kids, mark)})
	}
	nodes[:cap(nodes)][len(nodes)].Kind = mark
	return api.Scene{Nodes: nodes, Root: s.Root}
}

// checkMarked wants a scene that marked made of s to be still as it was, its spare room too.
func checkMarked(t *testing.T, what string, x, s api.Scene) {
	t.Helper()
	ok := same(x, s) && sameNode(x.Nodes[:len(x.Nodes)+1][len(x.Nodes)], api.Node{Kind: mark})
	for _, n := range x.Nodes {
		ok = ok && markedRoom(n.Ints, mark) && markedRoom(n.Texts, "mark") && markedRoom(n.Kids, mark)
	}
	if !ok {
		t.Errorf("%s: what was handed in became %.300v, from %.300v", what, x, s)
	}
}

// spoil changes all that a scene's lists hold, their spare room too.
func spoil(s api.Scene) {
	for _, n := range s.Nodes {
		spoilNode(n)
	}
	clear(s.Nodes[:cap(s.Nodes)])
}

func spoilNode(n api.Node) {
	fill(n.Ints, -99)
	fill(n.Texts, "spoilt")
	fill(n.Kids, -99)
}

// fill lays x wherever a list has room.
func fill[T any](l []T, x T) {
	for i := range l[:cap(l)] {
		l[:cap(l)][i] = x
	}
}

// checkTyped wants Typed to tell this.
func checkTyped(t *testing.T, s api.Scene, e api.Errno, at int) {
	t.Helper()
	x := marked(s)
	for range 2 {
		if gotE, gotAt := Typed(x); gotE != e || gotAt != at {
			t.Errorf("Typed(%.300v): %d at %d, not %d at %d", s, gotE, gotAt, e, at)
		}
	}
	checkMarked(t, "Typed", x, s)
}

// checkValid wants Valid to tell this, within these limits.
func checkValid(t *testing.T, s api.Scene, l api.Limits, e api.Errno, at int) {
	t.Helper()
	x := marked(s)
	for range 2 {
		if gotE, gotAt := Valid(x, l); gotE != e || gotAt != at {
			t.Errorf("Valid(%.300v, %v): %d at %d, not %d at %d", s, l, gotE, gotAt, e, at)
		}
	}
	checkMarked(t, "Valid", x, s)
}

// checkIs wants Is to tell this.
func checkIs(t *testing.T, s api.Scene, want bool) {
	t.Helper()
	x := marked(s)
	for range 2 {
		if got := Is(x); got != want {
			t.Errorf("Is(%.300v): %v", s, got)
		}
	}
	checkMarked(t, "Is", x, s)
}

// checkFlat wants Flat to put the nodes of s by these places, in new memory.
func checkFlat(t *testing.T, s api.Scene, places ...int) {
	t.Helper()
	x, want := marked(s), moved(s, places)
	got, e := Flat(x)
	kept, _ := Flat(x)
	if e != api.OK || got.Root != 0 || !same(got, want) {
		t.Errorf("Flat(%.300v): %.300v, %d, not %.300v", s, got, e, want)
	}
	checkMarked(t, "Flat", x, s)
	for at, n := range got.Nodes {
		if at < len(want.Nodes) && !sameNode(n, want.Nodes[at]) {
			t.Errorf("Flat(%.300v): node %d became %v, as another one was changed", s, at, n)
		}
		spoilNode(n)
	}
	spoil(got)
	checkMarked(t, "Flat's answer, changed", x, s)
	spoil(x)
	if !same(kept, want) {
		t.Errorf("Flat(%.300v): it became %.300v, as the scene or another answer was changed", s, kept)
	}
}

// checkNoFlat wants Flat to tell this error, and nothing else, and Is that the scene isn't forward.
func checkNoFlat(t *testing.T, s api.Scene, e api.Errno) {
	t.Helper()
	x := marked(s)
	for range 2 {
		if got, gotE := Flat(x); gotE != e || len(got.Nodes) != 0 || got.Root != 0 {
			t.Errorf("Flat(%.300v): %.300v, %d, not error %d", s, got, gotE, e)
		}
	}
	checkMarked(t, "Flat", x, s)
	checkIs(t, s, false)
}

// P16.2: the chapter's examples.
func TestExamples(t *testing.T) {
	checkIs(t, made(group(1, 2), lamp(), lamp()), true)
	checkIs(t, api.Scene{Nodes: []api.Node{lamp(), lamp(), group(0, 1)}, Root: 2}, false)
	checkIs(t, api.Scene{Nodes: []api.Node{group(1, 2), lamp(), lamp()}, Root: 2}, false)
}

// P16.1: a node of each kind.
func TestTypedOfEachKind(t *testing.T) {
	for i, n := range ordinary(1) {
		if n.Kind != i+1 {
			t.Fatalf("kind %d at %d", n.Kind, i)
		}
		checkTyped(t, made(n, lamp()), api.OK, 0)
		if len(n.Kids) > 0 {
			checkValid(t, made(n, lamp()), widest(), api.OK, 0)
		} else {
			checkValid(t, made(n), widest(), api.OK, 0)
		}
	}
	checkTyped(t, made(ordinary(3)...), api.OK, 0)
	checkTyped(t, api.Scene{}, api.OK, 0)
}

// P16.1: the kinds of version 1 alone.
func TestTypedOfNoKind(t *testing.T) {
	for _, kind := range []int{math.MinInt, math.MinInt32, -1, 0, 7, 8, 9, 255, 256, 257, 1<<32 + 1, math.MaxInt} {
		for _, n := range append(ordinary(0), api.Node{}, api.Node{Ints: []int64{-1}, Texts: []string{"\xff"}, Kids: []int{-1, 9}}) {
			n.Kind = kind
			checkTyped(t, made(n), api.ErrKind, 0)
			checkTyped(t, made(lamp(), n), api.ErrKind, 1)
			checkValid(t, made(lamp(), n), widest(), api.ErrKind, 1)
		}
	}
}

// P16.1: a node that is right by version 2 is held against version 1's Spec of its number.
func TestTypedOfVersion2(t *testing.T) {
	for _, x := range []struct {
		n api.Node
		e api.Errno
	}{
		{api.Node{Kind: api.KGroup, Texts: []string{"name"}}, api.ErrText},
		{api.Node{Kind: api.KMove, Ints: []int64{1, 2, 3}, Kids: []int{1}}, api.ErrField},
		{api.Node{Kind: api.KBox, Ints: []int64{1, 2, 3}, Texts: []string{"wood"}}, api.ErrField},
		{api.Node{Kind: api.KBall, Ints: []int64{1}, Texts: []string{"wood"}}, api.OK},
		{api.Node{Kind: api.KLabel, Ints: []int64{1}, Texts: []string{"text", "sans"}}, api.ErrField},
		{api.Node{Kind: api.KSwitch, Ints: []int64{1}}, api.OK},
		{api.Node{Kind: api.KSwitch, Ints: []int64{-1}}, api.ErrField},
		{api.Node{Kind: api.KSwitch, Ints: []int64{1}, Kids: []int{1}}, api.ErrKids},
		{api.Node{Kind: api.KLight, Ints: []int64{1, 2, 3, 1}}, api.ErrKind},
		{api.Node{Kind: api.KScale, Ints: []int64{1, 2, 3}, Kids: []int{1}}, api.ErrKind},
	} {
		if e, _ := limit.Typed(made(x.n)); e != api.OK {
			t.Fatalf("limit.Typed(%v): %d", x.n, e)
		}
		checkTyped(t, made(x.n, lamp()), x.e, 0)
		if x.e != api.OK {
			checkTyped(t, made(lamp(), x.n), x.e, 1)
		}
	}
}

// spoilt is a way to make a node wrong, and what is told of it then.
type spoilt struct {
	what string
	do   func(n *api.Node)
	e    api.Errno
}

// spoilts are ways that make a cube, or a sphere, wrong.
func spoilts() []spoilt {
	return []spoilt{
		{"a number more", func(n *api.Node) { n.Ints = append(n.Ints, 0) }, api.ErrField},
		{"a number less", func(n *api.Node) { n.Ints = n.Ints[1:] }, api.ErrField},
		{"a number below its class", func(n *api.Node) { n.Ints[0] = -1 }, api.ErrField},
		{"a number above its class", func(n *api.Node) { n.Ints[0] = 1<<47 + 1 }, api.ErrField},
		{"a text more", func(n *api.Node) { n.Texts = append(n.Texts, "") }, api.ErrText},
		{"a text less", func(n *api.Node) { n.Texts = n.Texts[1:] }, api.ErrText},
		{"not UTF-8", func(n *api.Node) { n.Texts[0] = "a\xc3" }, api.ErrText},
		{"a kid", func(n *api.Node) { n.Kids = []int{0} }, api.ErrKids},
	}
}

// P16.1: field.Check's errors; of several of one node the one that is named first.
func TestTypedOfWrongFields(t *testing.T) {
	for _, fresh := range []func(string) api.Node{cube, sphere} {
		for _, a := range spoilts() {
			n := fresh("wood")
			a.do(&n)
			checkTyped(t, made(n), a.e, 0)
			checkTyped(t, made(lamp(), n, lamp()), a.e, 1)
			checkValid(t, made(lamp(), n, lamp()), widest(), a.e, 1)
			for _, b := range spoilts() {
				if a.e < b.e {
					m := fresh("wood")
					b.do(&m)
					a.do(&m)
					checkTyped(t, made(m), a.e, 0)
					m.Kind = 7
					checkTyped(t, made(m), api.ErrKind, 0)
				}
			}
		}
	}
}

// P16.1: the ends of the classes, and how many numbers, texts and kids there may be.
func TestTypedAtTheEdges(t *testing.T) {
	old := func(kind int, ints []int64, texts []string, kids ...int) api.Node {
		return api.Node{Kind: kind, Ints: ints, Texts: texts, Kids: kids}
	}
	for _, x := range []struct {
		n api.Node
		e api.Errno
	}{
		{group(), api.OK},
		{group(make([]int, 1000)...), api.OK},
		{old(api.OGroup, []int64{0}, nil), api.ErrField},
		{old(api.OGroup, nil, []string{""}), api.ErrText},
		{old(api.OTrans, []int64{-1 << 47, 1 << 47, 0, -1 << 47}, nil, 0), api.OK},
		{old(api.OTrans, []int64{0, 0, 0, 1 << 47}, nil, 0), api.OK},
		{old(api.OTrans, []int64{-1<<47 - 1, 0, 0, 0}, nil, 0), api.ErrField},
		{old(api.OTrans, []int64{0, 1<<47 + 1, 0, 0}, nil, 0), api.ErrField},
		{old(api.OTrans, []int64{0, 0, math.MaxInt64, 0}, nil, 0), api.ErrField},
		{old(api.OTrans, []int64{0, 0, 0, math.MinInt64}, nil, 0), api.ErrField},
		{old(api.OTrans, []int64{0, 0, 0}, nil, 0), api.ErrField},
		{old(api.OTrans, []int64{0, 0, 0, 0, 0}, nil, 0), api.ErrField},
		{old(api.OTrans, []int64{0, 0, 0, 0}, nil), api.ErrKids},
		{old(api.OTrans, []int64{0, 0, 0, 0}, nil, 0, 0), api.ErrKids},
		{old(api.OTrans, []int64{0, 0, 0, 0}, []string{""}, 0), api.ErrText},
		{old(api.OCube, []int64{0}, []string{""}), api.OK},
		{old(api.OCube, []int64{1 << 47}, []string{"\U0010ffff"}), api.OK},
		{old(api.OCube, []int64{0}, []string{"\xed\xa0\x80"}), api.ErrText},
		{old(api.OSphere, []int64{0}, []string{""}), api.OK},
		{old(api.OSphere, []int64{1 << 47}, []string{""}), api.OK},
		{old(api.OText, nil, []string{""}), api.OK},
		{old(api.OText, nil, nil), api.ErrText},
		{old(api.OText, nil, []string{"a", "b"}), api.ErrText},
		{old(api.OText, nil, []string{"\xf4\x90\x80\x80"}), api.ErrText},
		{old(api.OText, []int64{1}, []string{"a"}), api.ErrField},
		{old(api.OText, nil, []string{"a"}, 0), api.ErrKids},
		{old(api.OLamp, []int64{0}, nil), api.OK},
		{old(api.OLamp, []int64{255}, nil), api.OK},
		{old(api.OLamp, []int64{256}, nil), api.ErrField},
		{old(api.OLamp, []int64{-1}, nil), api.ErrField},
		{old(api.OLamp, nil, nil), api.ErrField},
		{old(api.OLamp, []int64{1, 1}, nil), api.ErrField},
		{old(api.OLamp, []int64{1}, []string{""}), api.ErrText},
		{old(api.OLamp, []int64{1}, nil, 0), api.ErrKids},
	} {
		at := 0
		if x.e != api.OK {
			at = 1
		}
		checkTyped(t, made(lamp(), x.n), x.e, at)
	}
}

// P16.1: of several wrong nodes the first one, whatever is wrong with it, and whether or not the root leads to it; how nodes lead to each other isn't looked at.
func TestTypedTellsTheFirst(t *testing.T) {
	kids, wrong, number, kind := trans(0), text("\xff"), lamp(), api.Node{}
	kids.Kids, number.Ints = nil, nil
	l := []struct {
		n api.Node
		e api.Errno
	}{{kids, api.ErrKids}, {wrong, api.ErrText}, {number, api.ErrField}, {kind, api.ErrKind}}
	for _, a := range l {
		for _, b := range l {
			checkTyped(t, made(a.n, b.n), a.e, 0)
			checkTyped(t, made(lamp(), a.n, lamp(), b.n, lamp()), a.e, 1)
			loose := api.Scene{Nodes: []api.Node{lamp(), lamp(), a.n, b.n}, Root: -9}
			checkTyped(t, loose, a.e, 2)
			checkValid(t, loose, api.Limits{}, a.e, 2)
		}
	}
	checkTyped(t, made(group(-1, 99, math.MaxInt), trans(math.MinInt), group(2)), api.OK, 0)
}

// P16.1: graph.Check's errors, and places; whether a scene is forward plays no part.
func TestValidOfGraphs(t *testing.T) {
	for _, x := range []struct {
		s  api.Scene
		e  api.Errno
		at int
	}{
		{api.Scene{Nodes: []api.Node{lamp(), group(0)}, Root: 1}, api.OK, 0},
		{api.Scene{Nodes: []api.Node{lamp(), group(2, 0), trans(0)}, Root: 1}, api.OK, 0},
		{api.Scene{}, api.ErrRef, -1},
		{api.Scene{Nodes: []api.Node{lamp()}, Root: 1}, api.ErrRef, -1},
		{api.Scene{Nodes: []api.Node{lamp()}, Root: -1}, api.ErrRef, -1},
		{made(group(1), group(2)), api.ErrRef, 1},
		{made(group(1), trans(-1)), api.ErrRef, 1},
		{made(group(0)), api.ErrCycle, 0},
		{made(group(1), trans(2), group(1)), api.ErrCycle, 1},
		{made(group(2), lamp(), lamp()), api.ErrLoose, 1},
		{made(lamp(), lamp()), api.ErrLoose, 1},
		{api.Scene{Nodes: []api.Node{group(1), lamp()}, Root: 1}, api.ErrLoose, 0},
	} {
		e, at := graph.Check(x.s)
		if e != x.e || at != x.at {
			t.Fatalf("graph.Check(%v): %d at %d", x.s, e, at)
		}
		checkValid(t, x.s, widest(), x.e, x.at)
		if e != api.OK {
			checkValid(t, x.s, api.Limits{}, x.e, x.at)
		}
	}
}

// P16.1: what is named first is told first.
func TestValidOfSeveralErrors(t *testing.T) {
	right := made(group(1), cube("wood"))
	loose := made(group(2), lamp(), cube("wood"))
	typed := made(group(2, 7), lamp(), text("\xff"))
	checkValid(t, right, widest(), api.OK, 0)
	checkValid(t, right, api.Limits{}, api.ErrLimit, -1)
	checkValid(t, loose, api.Limits{}, api.ErrLoose, 1)
	checkValid(t, typed, api.Limits{}, api.ErrText, 2)
	for i := range 5 {
		for _, n := range []int{-1, most + 1, math.MinInt, math.MaxInt} {
			l := widest()
			*parts(&l)[i] = n
			for _, s := range []api.Scene{right, loose, typed, {}} {
				checkValid(t, s, l, api.ErrArg, -1)
			}
		}
	}
}

// P16.1: each of the limits by itself, at the edge; Bytes plays no part.
func TestValidAtTheLimits(t *testing.T) {
	s := made(group(1, 2, 3, 2), trans(3), text("abc"), group(4, 5), text("ab"), sphere("ab"))
	measure := api.Limits{Nodes: 6, Edges: 7, Depth: 4, Text: 5}
	checkValid(t, s, measure, api.OK, 0)
	for i := 1; i < 5; i++ {
		l := widest()
		l.Bytes = 0
		*parts(&l)[i] = *parts(&measure)[i]
		checkValid(t, s, l, api.OK, 0)
		*parts(&l)[i]--
		checkValid(t, s, l, api.ErrLimit, -1)
		*parts(&l)[i] = 0
		checkValid(t, s, l, api.ErrLimit, -1)
		l = measure
		*parts(&l)[i]--
		checkValid(t, s, l, api.ErrLimit, -1)
	}
	checkValid(t, made(lamp()), api.Limits{Nodes: 1, Depth: 1}, api.OK, 0)
	checkValid(t, made(lamp()), api.Limits{}, api.ErrLimit, -1)
}

// P16.2: which place each node has in Flat's scene.
func TestFlat(t *testing.T) {
	for _, x := range []struct {
		s      api.Scene
		places []int
	}{
		{bare(0, nil), []int{0}},
		{bare(0, []int{}), []int{0}},
		{bare(0, []int{1}, nil), []int{0, 1}},
		{bare(1, nil, []int{0}), []int{1, 0}},
		{bare(0, []int{1, 1}, nil), []int{0, 1}},
		{bare(0, []int{1, 2}, nil, nil), []int{0, 2, 1}},
		{bare(0, []int{2, 1}, nil, nil), []int{0, 1, 2}},
		{bare(0, []int{2, 1, 2}, nil, nil), []int{0, 1, 2}},
		{bare(2, nil, nil, []int{0, 1}), []int{2, 1, 0}},
		{bare(2, nil, nil, []int{0, 1, 0}), []int{2, 1, 0}},
		{bare(1, nil, []int{3, 0, 3, 2}, nil, []int{2}), []int{1, 0, 3, 2}},
		// A node that two lead to is behind both of them.
		{bare(0, []int{1, 2}, []int{3}, []int{3}, nil), []int{0, 2, 1, 3}},
		{bare(0, []int{1, 3}, []int{2}, []int{3}, nil), []int{0, 1, 2, 3}},
		{bare(0, []int{1, 2, 4}, []int{3, 2}, nil, []int{4}, []int{2}), []int{0, 1, 4, 2, 3}},
		{bare(4, nil, []int{0}, []int{1, 0}, []int{0, 2}, []int{3, 0, 1, 2}), []int{4, 3, 2, 1, 0}},
		{bare(4, nil, nil, nil, []int{1, 2}, []int{0, 3}), []int{4, 3, 2, 1, 0}},
	} {
		checkFlat(t, x.s, x.places...)
		checkFlat(t, named(x.s), x.places...)
		checkForward(t, named(x.s))
	}
}

// P16.2: a node is told with all its fields, whatever they are, its kids in the order in which they were, and only their places are new.
func TestFieldsStay(t *testing.T) {
	l := []api.Node{
		{Kind: math.MaxInt, Ints: []int64{math.MaxInt64, math.MinInt64, 0}, Kids: []int{1, 2, 1}},
		{Kind: math.MinInt, Texts: []string{"", "\xff\xfe", "a\x00b"}},
		{Kind: -1, Ints: []int64{}, Texts: []string{"", ""}, Kids: []int{3}},
		{Kind: api.OSphere, Ints: []int64{5}, Texts: []string{"wood"}},
	}
	got, e := Flat(api.Scene{Nodes: l})
	want := api.Scene{Nodes: []api.Node{l[0], l[2], l[3], l[1]}}
	want.Nodes[0].Kids, want.Nodes[1].Kids = []int{3, 1, 3}, []int{2}
	if e != api.OK || !same(got, want) {
		t.Errorf("%v, %d, not %v", got, e, want)
	}
	checkFlat(t, api.Scene{Nodes: l}, 0, 3, 1, 2)
}

// P16.2: nodes whose lists are one in memory have lists of their own then.
func TestListsInOneRoom(t *testing.T) {
	kids, ints, texts := []int{3, 2, 3}, []int64{1, 2, 3}, []string{"a", "b", "c"}
	s := api.Scene{Nodes: []api.Node{
		{Kids: []int{1, 4}},
		{Ints: ints, Texts: texts, Kids: kids},
		{Ints: ints[1:], Texts: texts[:2]},
		{Ints: ints[:2], Texts: texts[1:], Kids: kids[1:2]},
		{Ints: ints, Texts: texts, Kids: kids[:2]},
	}}
	want := moved(s, []int{0, 2, 4, 3, 1})
	got, e := Flat(s)
	if e != api.OK || !same(got, want) {
		t.Errorf("%v, %d, not %v", got, e, want)
	}
	for at, n := range got.Nodes {
		if !sameNode(n, want.Nodes[at]) {
			t.Errorf("node %d became %v, as another one was changed", at, n)
		}
		n.Ints = append(n.Ints, 9, 9)
		n.Texts = append(n.Texts, "9", "9")
		n.Kids = append(n.Kids, 9, 9)
		spoilNode(got.Nodes[at])
	}
	if !slices.Equal(kids, []int{3, 2, 3}) || !slices.Equal(ints, []int64{1, 2, 3}) || !slices.Equal(texts, []string{"a", "b", "c"}) {
		t.Errorf("the lists became %v, %v, %v", kids, ints, texts)
	}
}

// P16.2: wrong scenes have graph.Check's error, and aren't forward, though each kid is behind its node.
func TestWrongScenes(t *testing.T) {
	for _, x := range []struct {
		e api.Errno
		s api.Scene
	}{
		{api.ErrRef, api.Scene{}},
		{api.ErrRef, api.Scene{Nodes: []api.Node{}}},
		{api.ErrRef, api.Scene{Root: -1}},
		{api.ErrRef, bare(-1, nil)},
		{api.ErrRef, bare(1, nil)},
		{api.ErrRef, bare(math.MinInt, []int{1}, nil)},
		{api.ErrRef, bare(math.MaxInt, []int{1}, nil)},
		{api.ErrRef, bare(0, []int{1})},
		{api.ErrRef, bare(0, []int{1, 2}, nil)},
		{api.ErrRef, bare(0, []int{1, math.MaxInt}, nil)},
		{api.ErrRef, bare(0, []int{-1, 1}, nil)},
		{api.ErrRef, bare(0, []int{math.MinInt, 1}, nil)},
		{api.ErrRef, bare(0, []int{1}, []int{2})},
		{api.ErrRef, bare(0, nil, []int{9})},
		{api.ErrCycle, bare(0, []int{0})},
		{api.ErrCycle, bare(0, []int{1}, []int{0})},
		{api.ErrCycle, bare(0, []int{1}, []int{2}, []int{1})},
		{api.ErrCycle, bare(0, nil, []int{1})},
		{api.ErrLoose, bare(0, nil, nil)},
		{api.ErrLoose, bare(0, []int{2}, nil, nil)},
		{api.ErrLoose, bare(0, []int{3}, []int{3}, nil, nil)},
		{api.ErrLoose, bare(1, []int{1}, nil)},
		{api.ErrLoose, bare(1, nil, nil)},
	} {
		checkNoFlat(t, x.s, x.e)
		checkNoFlat(t, named(x.s), x.e)
	}
}

// P16.2: forward scenes, and others; kinds and fields play no part.
func TestIs(t *testing.T) {
	for _, x := range []struct {
		s    api.Scene
		want bool
	}{
		{bare(0, nil), true},
		{bare(0, []int{1}, nil), true},
		{bare(1, nil, []int{0}), false},
		{bare(0, []int{1, 1}, nil), true},
		{bare(0, []int{1, 2}, nil, nil), true},
		{bare(0, []int{2, 1}, nil, nil), true},
		{bare(1, nil, []int{0, 2}, nil), false},
		{bare(2, nil, nil, []int{0, 1}), false},
		{bare(0, []int{2, 1}, nil, []int{1}), false},
		{bare(0, []int{1, 2}, []int{2}, nil), true},
		{bare(0, []int{2, 1}, []int{3}, []int{3, 3}, nil), true},
		{bare(0, []int{2, 1}, []int{3, 2}, []int{3, 3}, nil), true},
		{bare(0, []int{1, 3}, nil, nil, []int{1, 2}), false},
		{bare(0, []int{1, 3}, nil, []int{1}, []int{2}), false},
	} {
		checkIs(t, x.s, x.want)
		checkIs(t, named(x.s), x.want)
	}
	s := named(bare(0, []int{2, 1, 4}, []int{3, 2}, []int{4, 3}, nil, nil))
	for _, to := range orders(5) {
		// The last two have no kids, and may be exchanged.
		checkIs(t, moved(s, to), slices.Equal(to[:3], []int{0, 1, 2}))
	}
}

// P16.3: there are forward scenes that aren't Flat's of any.
func TestForwardButNotFlat(t *testing.T) {
	s := bare(0, []int{1, 2}, nil, nil)
	checkIs(t, s, true)
	lists := kidLists(0, 2)
	for root := range 3 {
		for i := range len(lists) * len(lists) * len(lists) {
			from := bare(root, lists[i%len(lists)], lists[i/len(lists)%len(lists)], lists[i/len(lists)/len(lists)])
			if got, _ := Flat(from); same(got, s) {
				t.Errorf("Flat(%v): %v", from, got)
			}
		}
	}
	checkFlat(t, s, 0, 2, 1)
}

// between tells whether all numbers are from low to high.
func between(l []int64, low, high int64) bool {
	return !slices.ContainsFunc(l, func(n int64) bool { return n < low || n > high })
}

// plainNode is what is wrong with a node by the words of chapters 7, 8, 12 and 16.
func plainNode(n api.Node) api.Errno {
	numbers, texts := []int{0, 0, 4, 1, 1, 0, 1}, []int{0, 0, 0, 1, 1, 1, 0}
	if n.Kind < 1 || n.Kind > 6 {
		return api.ErrKind
	}
	ok, count := len(n.Ints) == numbers[n.Kind], len(n.Kids) == 0
	switch n.Kind {
	case api.OGroup:
		count = true
	case api.OTrans:
		ok, count = ok && between(n.Ints, -1<<47, 1<<47), len(n.Kids) == 1
	case api.OCube, api.OSphere:
		ok = ok && between(n.Ints, 0, 1<<47)
	case api.OLamp:
		ok = ok && between(n.Ints, 0, 255)
	}
	switch {
	case !ok:
		return api.ErrField
	case len(n.Texts) != texts[n.Kind] || slices.ContainsFunc(n.Texts, func(s string) bool { return !utf8.ValidString(s) }):
		return api.ErrText
	case !count:
		return api.ErrKids
	}
	return api.OK
}

// plainTyped is Typed by the chapters' words.
func plainTyped(s api.Scene) (api.Errno, int) {
	for at, n := range s.Nodes {
		if e := plainNode(n); e != api.OK {
			return e, at
		}
	}
	return api.OK, 0
}

// plainMeasure is a scene's measure by chapter 12's words.
func plainMeasure(s api.Scene) api.Limits {
	var texts []string
	for _, n := range s.Nodes {
		texts = append(texts, n.Texts...)
	}
	slices.Sort(texts)
	m := api.Limits{Nodes: len(s.Nodes), Edges: graph.Edges(s), Depth: graph.Depth(s)}
	for _, text := range slices.Compact(texts) {
		m.Text += len(text)
	}
	return m
}

// plainValid is Valid by the chapters' words, within limits that may be.
func plainValid(s api.Scene, l api.Limits) (api.Errno, int) {
	if e, at := plainTyped(s); e != api.OK {
		return e, at
	}
	if e, at := graph.Check(s); e != api.OK {
		return e, at
	}
	m := plainMeasure(s)
	if m.Nodes > l.Nodes || m.Edges > l.Edges || m.Depth > l.Depth || m.Text > l.Text {
		return api.ErrLimit, -1
	}
	return api.OK, 0
}

// plainPlaces are the places of Flat's scene by the words of chapters 10 and 16: a node has its place, from the last one on, as soon as all its kids have.
func plainPlaces(s api.Scene) []int {
	places, met, left := make([]int, len(s.Nodes)), make([]bool, len(s.Nodes)), len(s.Nodes)
	var down func(at int)
	down = func(at int) {
		for _, kid := range s.Nodes[at].Kids {
			if !met[kid] {
				down(kid)
			}
		}
		left--
		met[at], places[at] = true, left
	}
	down(s.Root)
	return places
}

// plainIs is Is by the chapter's words, of a scene of which graph.Check tells OK.
func plainIs(s api.Scene) bool {
	forward := s.Root == 0
	for at, n := range s.Nodes {
		forward = forward && !slices.ContainsFunc(n.Kids, func(kid int) bool { return kid <= at })
	}
	return forward
}

// checkForward wants Flat's scene to be forward, to have the same canonical scene, and to be its own Flat's.
func checkForward(t *testing.T, s api.Scene) {
	t.Helper()
	f, e := Flat(s)
	if e != api.OK || !Is(f) || !plainIs(f) {
		t.Errorf("Flat(%.300v): %.300v, %d, isn't forward", s, f, e)
	}
	want, _ := canon.Canon(s)
	if c, _ := canon.Canon(f); !same(c, want) {
		t.Errorf("Flat(%.300v): %.300v, whose canonical scene is %.300v, not %.300v", s, f, c, want)
	}
	if again, _ := Flat(f); !same(again, f) {
		t.Errorf("Flat(%.300v): %.300v, and of that %.300v", s, f, again)
	}
}

// checkOrder wants Flat's scene to be the same in another order of the nodes, and the scene to be valid just if it is in that one.
func checkOrder(t *testing.T, s api.Scene, l api.Limits, to []int) {
	t.Helper()
	x := moved(s, to)
	a, e := Flat(s)
	b, f := Flat(x)
	if e != f || !same(a, b) {
		t.Errorf("Flat(%.300v): %.300v, %d, but of %.300v: %.300v, %d", s, a, e, x, b, f)
	}
	e, _ = Valid(s, l)
	f, _ = Valid(x, l)
	if (e == api.OK) != (f == api.OK) || (e == api.ErrLimit) != (f == api.ErrLimit) {
		t.Errorf("Valid(%.300v, %v): %d, but of %.300v %d", s, l, e, x, f)
	}
}

// checkAll holds all calls with a scene against the promises' words; it tells what Valid has to tell.
func checkAll(t *testing.T, s api.Scene, l api.Limits) api.Errno {
	t.Helper()
	e, at := plainTyped(s)
	checkTyped(t, s, e, at)
	valid, at := plainValid(s, l)
	checkValid(t, s, l, valid, at)
	e, _ = graph.Check(s)
	if e != api.OK {
		checkNoFlat(t, s, e)
		return valid
	}
	checkIs(t, s, plainIs(s))
	checkFlat(t, s, plainPlaces(s)...)
	checkForward(t, s)
	return valid
}

// wantMet wants each of these errors to be met so often.
func wantMet(t *testing.T, met map[api.Errno]int, count int, l ...api.Errno) {
	t.Helper()
	for _, e := range l {
		if met[e] < count {
			t.Errorf("only %d scenes of %d", met[e], e)
		}
	}
}

// kidLists are all lists of at most two places from least on.
func kidLists(least, most int) [][]int {
	l := [][]int{nil}
	for a := least; a <= most; a++ {
		l = append(l, []int{a})
		for b := least; b <= most; b++ {
			l = append(l, []int{a, b})
		}
	}
	return l
}

// P16.1 to P16.3: all scenes of at most two nodes out of some, with all roots.
func TestAllSmallScenes(t *testing.T) {
	some := []api.Node{lamp(), cube("a"), sphere("ab"), text("a"), text("\xff"), {}, {Kind: 7}, {Kind: api.OTrans}, {Kind: api.OTrans, Ints: []int64{0, 0, 0, 0}}, {Kind: api.OGroup, Texts: []string{"a"}}}
	for _, kids := range kidLists(-1, 2) {
		some = append(some, group(kids...))
	}
	for kid := -1; kid <= 2; kid++ {
		some = append(some, trans(kid))
	}
	l := api.Limits{Nodes: 2, Edges: 1, Depth: 2, Text: 1}
	met := map[api.Errno]int{}
	for root := -1; root <= 2; root++ {
		met[checkAll(t, api.Scene{Root: root}, l)]++
		for _, a := range some {
			met[checkAll(t, api.Scene{Nodes: []api.Node{a}, Root: root}, l)]++
			for _, b := range some {
				s := api.Scene{Nodes: []api.Node{a, b}, Root: root}
				met[checkAll(t, s, l)]++
				checkOrder(t, s, l, []int{1, 0})
			}
		}
	}
	wantMet(t, met, 1, api.OK, api.ErrKind, api.ErrField, api.ErrText, api.ErrKids, api.ErrRef, api.ErrCycle, api.ErrLoose, api.ErrLimit)
}

// P16.2, P16.3: all ways that four nodes may lead to each other, each with its kids rising, and falling.
func TestAllLinksOfFourNodes(t *testing.T) {
	right, forward := 0, 0
	for bits := range 1 << 17 {
		s := api.Scene{Nodes: make([]api.Node, 4), Root: bits % 4}
		for i := range 16 {
			if bits>>(i+1)&1 == 1 {
				s.Nodes[i/4].Kids = append(s.Nodes[i/4].Kids, i%4)
			}
		}
		if bits&1 == 1 {
			for _, n := range s.Nodes {
				slices.Reverse(n.Kids)
			}
		}
		e, _ := graph.Check(s)
		if e != api.OK {
			if f, got := Flat(s); got != e || len(f.Nodes) != 0 || f.Root != 0 || Is(s) {
				t.Fatalf("Flat(%v): %v, %d, not %d; Is: %v", s, f, got, e, Is(s))
			}
			continue
		}
		right++
		checkIs(t, s, plainIs(s))
		checkFlat(t, s, plainPlaces(s)...)
		checkForward(t, s)
		if plainIs(s) {
			forward++
		}
	}
	if right < 100 || forward < 10 {
		t.Errorf("only %d right ones, %d of them forward", right, forward)
	}
}

// source makes scenes that are often right, and limits near their measure.
type source struct{ next func(n int) int }

// places are the places from 0 on, mixed.
func (r source) places(count int) []int {
	l := rising(count)
	for i := range l {
		j := r.next(i + 1)
		l[i], l[j] = l[j], l[i]
	}
	return l
}

func (r source) text() string {
	return []string{"", "a", "b", "ab", "abc", "\u20ac", "\u00e9", "a\u0301"}[r.next(8)]
}

// node has these kids, and a kind that lets it have so many.
func (r source) node(kids []int) api.Node {
	n := group()
	switch {
	case len(kids) == 1 && r.next(2) == 1:
		n = trans(0)
		n.Ints[r.next(4)] = int64(r.next(3)) - 1
	case len(kids) == 0 && r.next(5) > 0:
		n = []api.Node{cube(r.text()), sphere(r.text()), text(r.text()), lamp()}[r.next(4)]
	}
	n.Kids = kids
	return n
}

// scene has nothing wrong, and is forward.
func (r source) scene() api.Scene {
	count := 1 + r.next(10)
	kids := make([][]int, count)
	for at := range count - 1 {
		over := r.next(at + 1)
		kids[over] = append(kids[over], at+1)
		for range r.next(3) {
			kids[at] = append(kids[at], at+1+r.next(count-at-1))
		}
	}
	s := api.Scene{}
	for _, k := range kids {
		if r.next(2) == 1 {
			slices.Reverse(k)
		}
		s.Nodes = append(s.Nodes, r.node(k))
	}
	return s
}

// breakIt makes something wrong with a scene, mostly.
func (r source) breakIt(s *api.Scene) {
	n := &s.Nodes[r.next(len(s.Nodes))]
	switch r.next(9) {
	case 0:
		n.Kind = r.next(10) - 1
	case 1:
		n.Ints = append(slices.Clone(n.Ints), 0)
	case 2:
		n.Ints = slices.Repeat([]int64{-1 << 50}, len(n.Ints))
	case 3:
		n.Texts = append(slices.Clone(n.Texts), "more")
	case 4:
		n.Texts = slices.Repeat([]string{"\xc3"}, len(n.Texts))
	case 5:
		n.Kids = append(n.Kids, r.next(len(s.Nodes)+2)-1)
	case 6:
		n.Kids = nil
	case 7:
		s.Root = r.next(len(s.Nodes)+2) - 1
	default:
		s.Nodes = append(s.Nodes, lamp())
	}
}

// limits are near a measure, and now and then just it.
func (r source) limits(m api.Limits) api.Limits {
	m.Bytes = r.next(3)
	if i := 1 + r.next(8); i < 5 {
		part := parts(&m)[i]
		*part = max(*part+r.next(3)-1, 0)
	}
	return m
}

// checkSource holds all calls against the promises' words, on what a source makes; it tells what Valid tells, and whether the scene is forward.
func checkSource(t *testing.T, r source) (api.Errno, bool) {
	t.Helper()
	s := r.scene()
	checkValid(t, s, widest(), api.OK, 0)
	checkIs(t, s, true)
	if r.next(2) == 1 {
		s = moved(s, r.places(len(s.Nodes)))
	}
	for range r.next(3) {
		r.breakIt(&s)
	}
	l := r.limits(plainMeasure(s))
	checkOrder(t, s, l, r.places(len(s.Nodes)))
	return checkAll(t, s, l), Is(s)
}

// P16.1 to P16.3
func TestManyScenes(t *testing.T) {
	r := source{rand.New(rand.NewSource(1)).Intn}
	met, forward := map[api.Errno]int{}, map[bool]int{}
	for range 10000 {
		e, is := checkSource(t, r)
		met[e]++
		forward[is]++
		if t.Failed() {
			return
		}
	}
	wantMet(t, met, 50, api.OK, api.ErrKind, api.ErrField, api.ErrText, api.ErrKids, api.ErrRef, api.ErrCycle, api.ErrLoose, api.ErrLimit)
	if forward[true] < 1000 || forward[false] < 1000 {
		t.Errorf("forward: %v", forward)
	}
}

// P16.1 to P16.3: whatever is handed in.
func FuzzAll(f *testing.F) {
	f.Add([]byte{})
	f.Add([]byte("\x03\x00\x01\x00\x02\x01\x01\x00\x01\x02\x03\x01\x00\x02\x01\x05\x02\x01"))
	f.Add([]byte("\x07\x01\x01\x01\x01\x02\x00\x00\x00\x01\x00\x01\x02\x01\x01\x00\x02\x00\x01\x07\x02\x01\x05\x00\x03"))
	f.Add([]byte("\x09\x00\x01\x02\x01\x00\x01\x03\x01\x04\x01\x00\x01\x02\x00\x04\x02\x01\x03\x02\x02\x01\x01\x03\x03\x03\x01\x08\x02"))
	f.Fuzz(func(t *testing.T, b []byte) {
		at := 0
		checkSource(t, source{func(n int) int {
			at++
			if at > len(b) {
				return 0
			}
			return int(b[at-1]) % n
		}})
	})
}

// checkGreat wants a great forward scene, which isn't told whole, to have this measure, and to be put by these places, as the same in the other order.
func checkGreat(t *testing.T, what string, s api.Scene, m api.Limits, places []int) {
	t.Helper()
	turned, want := moved(s, falling(len(s.Nodes))), moved(s, places)
	for _, x := range []api.Scene{s, turned} {
		if got, e := Flat(x); e != api.OK || !same(got, want) || !Is(got) {
			t.Errorf("%s: another scene than Flat's, or error %d", what, e)
		}
		if e, at := Valid(x, m); e != api.OK || at != 0 {
			t.Errorf("%s: %d at %d", what, e, at)
		}
		for i := 1; i < 5; i++ {
			less := m
			if *parts(&less)[i]--; *parts(&less)[i] < 0 {
				continue
			}
			if e, at := Valid(x, less); e != api.ErrLimit || at != -1 {
				t.Errorf("%s: within %v %d at %d", what, less, e, at)
			}
		}
	}
	if !Is(s) || Is(turned) {
		t.Errorf("%s: Is: %v, and of the other order %v", what, Is(s), Is(turned))
	}
}

// P16.1 to P16.3: ways down that are long.
func TestLongWays(t *testing.T) {
	const count = 1 << 16
	var s api.Scene
	for at := range count - 1 {
		s.Nodes = append(s.Nodes, trans(at+1))
	}
	s.Nodes = append(s.Nodes, text("end"))
	checkGreat(t, "a chain", s, api.Limits{Nodes: count, Edges: count - 1, Depth: count, Text: 3}, rising(count))
	s.Nodes[count-1] = trans(0)
	if f, e := Flat(s); e != api.ErrCycle || len(f.Nodes) != 0 || Is(s) {
		t.Errorf("a ring: %d", e)
	}
	if e, at := Valid(s, widest()); e != api.ErrCycle || at != 0 {
		t.Errorf("a ring: %d at %d", e, at)
	}
	s.Nodes[count-1].Kind = 7
	if e, at := Typed(s); e != api.ErrKind || at != count-1 {
		t.Errorf("a ring of which the last node has no kind: %d at %d", e, at)
	}
}

// P16.1 to P16.3: more ways down than could be gone one by one, and many nodes side by side.
func TestManyWays(t *testing.T) {
	const count = 5000
	var s api.Scene
	for at := range count {
		s.Nodes = append(s.Nodes, group(min(at+2, count), at+1, at+1))
	}
	s.Nodes = append(s.Nodes, cube("wood"))
	checkGreat(t, "a ladder", s, api.Limits{Nodes: count + 1, Edges: 3 * count, Depth: count + 1, Text: 4}, plainPlaces(s))
	wide, places := made(group()), append([]int{0}, falling(count + 1)[:count]...)
	for at := range count {
		wide.Nodes[0].Kids = append(wide.Nodes[0].Kids, at+1)
		wide.Nodes = append(wide.Nodes, text(strings.Repeat("\u20ac", at%100)))
	}
	checkGreat(t, "a wide one", wide, api.Limits{Nodes: count + 1, Edges: count, Depth: 2, Text: 3 * 4950}, places)
}
