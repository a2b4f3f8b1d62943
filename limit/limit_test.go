package limit

import (
	"math"
	"math/rand"
	"slices"
	"strings"
	"testing"
	"unicode/utf8"

	"diorama/api"
	"diorama/graph"
)

// most is 2^24, the greatest number that a limit may be by the chapter's words.
const most = 16777216

// widest are the greatest limits that may be.
func widest() api.Limits {
	return api.Limits{Bytes: most, Nodes: most, Edges: most, Depth: most, Text: most}
}

// parts are the five of limits, to be changed one by one.
func parts(l *api.Limits) []*int {
	return []*int{&l.Bytes, &l.Nodes, &l.Edges, &l.Depth, &l.Text}
}

// made is nodes, of which the last one is the root.
func made(nodes ...api.Node) api.Scene {
	return api.Scene{Nodes: nodes, Root: len(nodes) - 1}
}

func group(name string, kids ...int) api.Node {
	return api.Node{Kind: api.KGroup, Texts: []string{name}, Kids: kids}
}

func box(material string) api.Node {
	return api.Node{Kind: api.KBox, Ints: []int64{1, 2, 3}, Texts: []string{material}}
}

func label(text, font string) api.Node {
	return api.Node{Kind: api.KLabel, Ints: []int64{1}, Texts: []string{text, font}}
}

func light() api.Node {
	return api.Node{Kind: api.KLight, Ints: []int64{1, 2, 3, 1}}
}

func move(kid int) api.Node {
	return api.Node{Kind: api.KMove, Ints: []int64{-1, 0, 1}, Kids: []int{kid}}
}

// ordinary is a node of each kind, from kind 1 on, of which nothing is wrong where kid is a place.
func ordinary(kid int) []api.Node {
	return []api.Node{
		group("g", kid, kid),
		move(kid),
		box("wood"),
		{Kind: api.KBall, Ints: []int64{5}, Texts: []string{"wood"}},
		label("text", "sans"),
		{Kind: api.KSwitch, Ints: []int64{-1}, Kids: []int{kid}},
		light(),
		{Kind: api.KScale, Ints: []int64{1, 1, 1}, Kids: []int{kid}},
	}
}

func sameNode(a, b api.Node) bool {
	return a.Kind == b.Kind && slices.Equal(a.Ints, b.Ints) && slices.Equal(a.Texts, b.Texts) && slices.Equal(a.Kids, b.Kids)
}

func same(a, b api.Scene) bool {
	return a.Root == b.Root && slices.EqualFunc(a.Nodes, b.Nodes, sameNode)
}

// moved is a scene whose node at a place stands at another one, by to; the same scene, in another order. What is no place stays as it is.
func moved(s api.Scene, to []int) api.Scene {
	place := func(at int) int {
		if at < 0 || at >= len(to) {
			return at
		}
		return to[at]
	}
	out := api.Scene{Nodes: make([]api.Node, len(s.Nodes)), Root: place(s.Root)}
	for at, n := range s.Nodes {
		var kids []int
		for _, kid := range n.Kids {
			kids = append(kids, place(kid))
		}
		out.Nodes[to[at]] = api.Node{Kind: n.Kind, Ints: n.Ints, Texts: n.Texts, Kids: kids}
	}
	return out
}

// falling are the places from the last one on.
func falling(count int) []int {
	l := make([]int, count)
	for at := range l {
		l[at] = count - 1 - at
	}
	return l
}

// mark is what lies in the spare room behind the lists that marked makes.
const mark = 77

// roomy is a list with two marks in the spare room behind it.
func roomy[T any](l []T, m T) []T {
	return append(append(make([]T, 0, len(l)+2), l...), m, m)[:len(l)]
}

// markedRoom tells whether a list has still its marks behind it.
func markedRoom[T comparable](l []T, m T) bool {
	return slices.Equal(l[len(l):cap(l)][:2], []T{m, m})
}

// marked is a scene like s, with marks in the spare room behind all its lists.
func marked(s api.Scene) api.Scene {
	nodes := make([]api.Node, 0, len(s.Nodes)+1)
	for _, n := range s.Nodes {
		nodes = append(nodes, api.Node{Kind: n.Kind, Ints: roomy(n.Ints, mark), Texts: roomy(n.Texts, "mark"), Kids: roomy(n.Kids, mark)})
	}
	nodes[:cap(nodes)][len(nodes)].Kind = mark
	return api.Scene{Nodes: nodes, Root: s.Root}
}

// checkMarked wants a scene that marked made of s to be still as it was, its spare room too.
func checkMarked(t *testing.T, what string, x, s api.Scene) {
	t.Helper()
	ok := same(x, s) && sameNode(x.Nodes[:len(x.Nodes)+1][len(x.Nodes)], api.Node{Kind: mark})
	for _, n := range x.Nodes {
		ok = ok && markedRoom(n.Ints, mark) && markedRoom(n.Texts, "mark") && markedRoom(n.Kids, mark)
	}
	if !ok {
		t.Errorf("%s: what was handed in became %.300v, from %.300v", what, x, s)
	}
}

// checkMeasure wants a scene's measure to be this many nodes, edges, levels and bytes of texts.
func checkMeasure(t *testing.T, s api.Scene, nodes, edges, depth, text int) {
	t.Helper()
	want := api.Limits{Nodes: nodes, Edges: edges, Depth: depth, Text: text}
	x := marked(s)
	for range 2 {
		if got := Measure(x); got != want {
			t.Errorf("Measure(%.300v): %v, not %v", s, got, want)
		}
	}
	checkMarked(t, "Measure", x, s)
}

// checkTyped wants Typed to tell this.
func checkTyped(t *testing.T, s api.Scene, e api.Errno, at int) {
	t.Helper()
	x := marked(s)
	for range 2 {
		if gotE, gotAt := Typed(x); gotE != e || gotAt != at {
			t.Errorf("Typed(%.300v): %d at %d, not %d at %d", s, gotE, gotAt, e, at)
		}
	}
	checkMarked(t, "Typed", x, s)
}

// checkValid wants Valid to tell this, within these limits.
func checkValid(t *testing.T, s api.Scene, l api.Limits, e api.Errno, at int) {
	t.Helper()
	x := marked(s)
	for range 2 {
		if gotE, gotAt := Valid(x, l); gotE != e || gotAt != at {
			t.Errorf("Valid(%.300v, %v): %d at %d, not %d at %d", s, l, gotE, gotAt, e, at)
		}
	}
	checkMarked(t, "Valid", x, s)
}

// checkRight wants Right to tell this.
func checkRight(t *testing.T, l api.Limits, want bool) {
	t.Helper()
	if got := Right(l); got != want {
		t.Errorf("Right(%v): %v", l, got)
	}
}

// P12.1: each of the five, from 0 to 2^24.
func TestRight(t *testing.T) {
	checkRight(t, api.Limits{}, true)
	checkRight(t, widest(), true)
	checkRight(t, api.Limits{Bytes: 1, Nodes: 2, Edges: 3, Depth: 4, Text: 5}, true)
	for _, start := range []api.Limits{{}, widest(), {Bytes: 1, Nodes: 2, Edges: 3, Depth: 4, Text: 5}} {
		for i := range 5 {
			for _, n := range []int{0, 1, 255, 256, 1 << 16, most - 1, most} {
				l := start
				*parts(&l)[i] = n
				checkRight(t, l, true)
			}
			for _, n := range []int{-1, -2, -most, most + 1, 2 * most, math.MaxInt32, math.MinInt32, 1 << 32, -1 << 32, math.MaxInt, math.MinInt} {
				l := start
				*parts(&l)[i] = n
				checkRight(t, l, false)
			}
		}
	}
}

// checkWithin wants Within to tell this.
func checkWithin(t *testing.T, m, l api.Limits, want bool) {
	t.Helper()
	if got := Within(m, l); got != want {
		t.Errorf("Within(%v, %v): %v", m, l, got)
	}
}

// P12.1: each of the five by itself, against its like alone.
func TestWithin(t *testing.T) {
	checkWithin(t, api.Limits{}, api.Limits{}, true)
	checkWithin(t, widest(), widest(), true)
	checkWithin(t, api.Limits{}, widest(), true)
	checkWithin(t, widest(), api.Limits{}, false)
	checkWithin(t, api.Limits{Bytes: 1}, api.Limits{}, false)
	for _, start := range []api.Limits{{}, {Bytes: 5, Nodes: 4, Edges: 3, Depth: 2, Text: 1}, widest()} {
		for i := range 5 {
			more := start
			*parts(&more)[i]++
			checkWithin(t, start, more, true)
			checkWithin(t, more, more, true)
			checkWithin(t, more, start, false)
		}
	}
}

// P12.1: limits that mayn't be are held against each other all the same.
func TestWithinOfAnyNumbers(t *testing.T) {
	l := []int{math.MinInt, math.MinInt32, -1, 0, 1, most + 1, math.MaxInt32, 1 << 32, math.MaxInt}
	for i := range 5 {
		for _, a := range l {
			for _, b := range l {
				var m, n api.Limits
				*parts(&m)[i], *parts(&n)[i] = a, b
				checkWithin(t, m, n, a <= b)
			}
		}
	}
}

// P12.1: all that small numbers make together.
func TestWithinOfAllSmallOnes(t *testing.T) {
	var all []api.Limits
	for i := range 3 * 3 * 3 * 3 * 3 {
		all = append(all, api.Limits{Bytes: i % 3, Nodes: i / 3 % 3, Edges: i / 9 % 3, Depth: i / 27 % 3, Text: i / 81})
	}
	for _, m := range all {
		for _, l := range all {
			want := m.Bytes <= l.Bytes && m.Nodes <= l.Nodes && m.Edges <= l.Edges && m.Depth <= l.Depth && m.Text <= l.Text
			if got := Within(m, l); got != want {
				t.Fatalf("Within(%v, %v): %v", m, l, got)
			}
		}
	}
}

// P12.1: the chapter's example.
func TestExample(t *testing.T) {
	checkMeasure(t, made(box("wood")), 1, 0, 1, 4)
	checkValid(t, made(box("wood")), api.Limits{Nodes: 1, Depth: 1, Text: 4}, api.OK, 0)
}

// P12.1
func TestMeasure(t *testing.T) {
	checkMeasure(t, made(light()), 1, 0, 1, 0)
	checkMeasure(t, made(box("wood"), group("", 0, 0)), 2, 2, 2, 4)
	checkMeasure(t, made(box("wood"), box("tin"), group("all", 0, 1)), 3, 2, 2, 10)
	checkMeasure(t, made(light(), move(0), group("ab", 1, 0, 1), group("c", 2, 0)), 4, 6, 4, 3)
	checkMeasure(t, api.Scene{Nodes: []api.Node{move(1), move(2), label("a", "bc")}}, 3, 2, 3, 3)
}

// P12.1: each text once, however often it stands, by its bytes.
func TestMeasureOfTexts(t *testing.T) {
	for _, x := range []struct {
		texts []string
		want  int
	}{
		{nil, 0},
		{[]string{""}, 0},
		{[]string{"", "", "a"}, 1},
		{[]string{"a", "a"}, 1},
		{[]string{"a", "b"}, 2},
		{[]string{"a", "A"}, 2},
		{[]string{"ab", "a", "b", "ab", "ba"}, 6},
		{[]string{"a", "b", "a", "b", "a"}, 2},
		{[]string{"a", "a ", " a", "a\x00", "\x00"}, 8},
		{[]string{"\u20ac"}, 3},
		{[]string{"\u00e9", "e\u0301"}, 5},
		{[]string{"\xff", "\xfe", "\ufffd", "\xff"}, 5},
		{[]string{strings.Repeat("x", 70000), strings.Repeat("x", 69999), strings.Repeat("x", 70000)}, 139999},
	} {
		one, many := api.Node{Texts: x.texts}, api.Scene{}
		for _, text := range x.texts {
			many.Nodes = append(many.Nodes, api.Node{Texts: []string{text}})
		}
		checkMeasure(t, made(one), 1, 0, 1, x.want)
		checkMeasure(t, made(one, api.Node{Texts: x.texts, Kids: []int{0}}), 2, 1, 2, x.want)
		many.Nodes = append(many.Nodes, api.Node{Texts: x.texts, Kids: slices.Repeat([]int{0}, 4)})
		many.Root = -1
		checkMeasure(t, many, len(x.texts)+1, 4, 0, x.want)
	}
}

// P12.1: one text is the same one, wherever its bytes lie in memory.
func TestMeasureOfTextsInMemory(t *testing.T) {
	long := "woodwood"
	checkMeasure(t, made(box(long[:4]), box(long[4:]), box(strings.Clone("wood")), group(long, 0, 1, 2)), 4, 3, 2, 12)
}

// P12.1: of any scene; the depth is 0 where graph.Check tells an error, all else is counted.
func TestMeasureOfWrongScenes(t *testing.T) {
	checkMeasure(t, api.Scene{}, 0, 0, 0, 0)
	checkMeasure(t, api.Scene{Root: 5}, 0, 0, 0, 0)
	checkMeasure(t, api.Scene{Nodes: []api.Node{box("wood")}, Root: 1}, 1, 0, 0, 4)
	checkMeasure(t, api.Scene{Nodes: []api.Node{box("wood")}, Root: -1}, 1, 0, 0, 4)
	checkMeasure(t, made(box("wood"), group("a", 0, 2, -1)), 2, 3, 0, 5)
	checkMeasure(t, made(group("wood", 1), group("a", 0, 1)), 2, 3, 0, 5)
	checkMeasure(t, made(box("wood"), group("a")), 2, 0, 0, 5)
	checkMeasure(t, made(api.Node{Kind: -9, Ints: []int64{-1}, Texts: []string{"a", "\xff", "bc"}}, api.Node{Kind: 99, Kids: []int{0}}), 2, 1, 2, 4)
}

// P12.2: a node of each kind.
func TestTypedOfEachKind(t *testing.T) {
	for i, n := range ordinary(1) {
		if n.Kind != i+1 {
			t.Fatalf("kind %d at %d", n.Kind, i)
		}
		s := api.Scene{Nodes: []api.Node{n, light()}}
		checkTyped(t, s, api.OK, 0)
		if len(n.Kids) > 0 {
			checkValid(t, s, widest(), api.OK, 0)
		} else {
			checkValid(t, made(n), widest(), api.OK, 0)
		}
	}
	checkTyped(t, made(ordinary(3)...), api.OK, 0)
	checkTyped(t, api.Scene{}, api.OK, 0)
}

// P12.2: the kinds of version 2 alone.
func TestTypedOfNoKind(t *testing.T) {
	for _, kind := range []int{math.MinInt, math.MinInt32, -1, 0, api.Kinds + 1, 10, 255, 256, 257, 1<<32 + 1, math.MaxInt} {
		for _, n := range append(ordinary(0), api.Node{}, api.Node{Ints: []int64{-1}, Texts: []string{"\xff"}, Kids: []int{-1, 9}}) {
			n.Kind = kind
			checkTyped(t, made(n), api.ErrKind, 0)
			checkTyped(t, made(light(), n), api.ErrKind, 1)
			checkValid(t, made(light(), n), widest(), api.ErrKind, 1)
		}
	}
	cube := api.Node{Kind: api.OCube, Ints: []int64{1}, Texts: []string{"wood"}}
	checkTyped(t, made(cube), api.ErrField, 0)
	lamp := api.Node{Kind: api.OLamp, Ints: []int64{9}}
	checkTyped(t, made(lamp), api.OK, 0)
	checkTyped(t, made(api.Node{Kind: api.OGroup}), api.ErrText, 0)
}

// spoilt is a way to make a node wrong, and what is told of it then.
type spoilt struct {
	what string
	do   func(n *api.Node)
	e    api.Errno
}

// spoilts are ways that make each node wrong that has one number and one text of its kind, or more.
func spoilts() []spoilt {
	return []spoilt{
		{"a number more", func(n *api.Node) { n.Ints = append(n.Ints, 0) }, api.ErrField},
		{"a number less", func(n *api.Node) { n.Ints = n.Ints[1:] }, api.ErrField},
		{"a number below its class", func(n *api.Node) { n.Ints[0] = -1 }, api.ErrField},
		{"a number above its class", func(n *api.Node) { n.Ints[0] = 1<<47 + 1 }, api.ErrField},
		{"a text more", func(n *api.Node) { n.Texts = append(n.Texts, "") }, api.ErrText},
		{"a text less", func(n *api.Node) { n.Texts = n.Texts[1:] }, api.ErrText},
		{"not UTF-8", func(n *api.Node) { n.Texts[0] = "a\xc3" }, api.ErrText},
		{"a kid", func(n *api.Node) { n.Kids = []int{0} }, api.ErrKids},
	}
}

// P12.2: field.Check's errors; of several of one node the one that is named first.
func TestTypedOfWrongFields(t *testing.T) {
	for _, a := range spoilts() {
		n := label("a", "b")
		a.do(&n)
		checkTyped(t, made(n), a.e, 0)
		checkTyped(t, made(light(), n, light()), a.e, 1)
		checkValid(t, made(light(), n, light()), widest(), a.e, 1)
		for _, b := range spoilts() {
			if a.e < b.e {
				m := label("a", "b")
				b.do(&m)
				a.do(&m)
				checkTyped(t, made(m), a.e, 0)
				m.Kind = 9
				checkTyped(t, made(m), api.ErrKind, 0)
			}
		}
	}
}

// P12.2: the ends of the classes, and how many kids there may be.
func TestTypedAtTheEdges(t *testing.T) {
	for _, x := range []struct {
		n api.Node
		e api.Errno
	}{
		{api.Node{Kind: api.KBall, Ints: []int64{0}, Texts: []string{""}}, api.OK},
		{api.Node{Kind: api.KBall, Ints: []int64{1 << 47}, Texts: []string{""}}, api.OK},
		{api.Node{Kind: api.KBall, Ints: []int64{1<<47 + 1}, Texts: []string{""}}, api.ErrField},
		{api.Node{Kind: api.KLight, Ints: []int64{255, 0, 255, 1}}, api.OK},
		{api.Node{Kind: api.KLight, Ints: []int64{255, 0, 256, 1}}, api.ErrField},
		{api.Node{Kind: api.KLight, Ints: []int64{255, 0, 255, 2}}, api.ErrField},
		{api.Node{Kind: api.KSwitch, Ints: []int64{math.MinInt64}}, api.OK},
		{api.Node{Kind: api.KSwitch, Ints: []int64{math.MaxInt64}, Kids: make([]int, 1000)}, api.OK},
		{api.Node{Kind: api.KMove, Ints: []int64{-1 << 47, 0, 1 << 47}, Kids: []int{0}}, api.OK},
		{api.Node{Kind: api.KMove, Ints: []int64{-1<<47 - 1, 0, 0}, Kids: []int{0}}, api.ErrField},
		{api.Node{Kind: api.KMove, Ints: []int64{0, 0, 0}}, api.ErrKids},
		{api.Node{Kind: api.KMove, Ints: []int64{0, 0, 0}, Kids: []int{0, 0}}, api.ErrKids},
		{api.Node{Kind: api.KScale, Ints: []int64{0, 0, 0}}, api.ErrKids},
		{api.Node{Kind: api.KScale, Ints: []int64{0, 0, 0}, Texts: []string{""}, Kids: []int{0}}, api.ErrText},
		{group("\U0010ffff"), api.OK},
		{group("\xed\xa0\x80"), api.ErrText},
	} {
		at := 0
		if x.e != api.OK {
			at = 1
		}
		checkTyped(t, made(light(), x.n), x.e, at)
	}
}

// P12.2: of several wrong nodes the first one, whatever is wrong with it, and whether or not the root leads to it; how nodes lead to each other isn't looked at.
func TestTypedTellsTheFirst(t *testing.T) {
	kids, text, number, kind := move(0), group("\xff"), light(), api.Node{}
	kids.Kids, number.Ints = nil, nil
	l := []struct {
		n api.Node
		e api.Errno
	}{{kids, api.ErrKids}, {text, api.ErrText}, {number, api.ErrField}, {kind, api.ErrKind}}
	for _, a := range l {
		for _, b := range l {
			checkTyped(t, made(a.n, b.n), a.e, 0)
			checkTyped(t, made(light(), a.n, light(), b.n, light()), a.e, 1)
			checkTyped(t, api.Scene{Nodes: []api.Node{light(), light(), a.n, b.n}, Root: -9}, a.e, 2)
			checkValid(t, api.Scene{Nodes: []api.Node{light(), light(), a.n, b.n}, Root: -9}, api.Limits{}, a.e, 2)
		}
	}
	checkTyped(t, made(group("a", -1, 99, math.MaxInt), move(math.MinInt), group("b", 2)), api.OK, 0)
}

// P12.2: graph.Check's errors, and places.
func TestValidOfWrongGraphs(t *testing.T) {
	for _, x := range []struct {
		s  api.Scene
		e  api.Errno
		at int
	}{
		{api.Scene{}, api.ErrRef, -1},
		{api.Scene{Nodes: []api.Node{light()}, Root: 1}, api.ErrRef, -1},
		{api.Scene{Nodes: []api.Node{light()}, Root: -1}, api.ErrRef, -1},
		{made(light(), group("a", 0, 2)), api.ErrRef, 1},
		{made(light(), move(-1), group("a", 0, 1)), api.ErrRef, 1},
		{made(group("a", 0)), api.ErrCycle, 0},
		{made(light(), group("a", 0, 2), move(1)), api.ErrCycle, 1},
		{made(light(), light(), group("a", 0)), api.ErrLoose, 1},
		{made(light(), light()), api.ErrLoose, 0},
	} {
		e, at := graph.Check(x.s)
		if e != x.e || at != x.at {
			t.Fatalf("graph.Check(%v): %d at %d", x.s, e, at)
		}
		checkValid(t, x.s, widest(), x.e, x.at)
		checkValid(t, x.s, api.Limits{}, x.e, x.at)
	}
}

// P12.2: what is named first is told first.
func TestValidOfSeveralErrors(t *testing.T) {
	wrong := api.Limits{Bytes: -1}
	right := made(box("wood"), group("a", 0))
	loose := made(light(), box("wood"), group("a", 0))
	typed := made(light(), box("wood"), api.Node{Kind: api.KGroup, Kids: []int{7}})
	checkValid(t, right, widest(), api.OK, 0)
	checkValid(t, right, api.Limits{}, api.ErrLimit, -1)
	checkValid(t, loose, api.Limits{}, api.ErrLoose, 1)
	checkValid(t, typed, api.Limits{}, api.ErrText, 2)
	for _, s := range []api.Scene{right, loose, typed, {}} {
		checkValid(t, s, wrong, api.ErrArg, -1)
	}
}

// P12.2: ErrArg, whichever of the limits mayn't be.
func TestValidOfLimitsThatMayNotBe(t *testing.T) {
	for i := range 5 {
		for _, n := range []int{-1, most + 1, math.MinInt, math.MaxInt} {
			l := widest()
			*parts(&l)[i] = n
			checkValid(t, made(light()), l, api.ErrArg, -1)
			checkValid(t, api.Scene{}, l, api.ErrArg, -1)
		}
	}
}

// P12.2: each of the limits by itself, at the edge.
func TestValidAtTheLimits(t *testing.T) {
	s := made(light(), move(0), label("ab", "ab"), group("abc", 2, 1, 0, 1))
	measure := api.Limits{Nodes: 4, Edges: 5, Depth: 3, Text: 5}
	checkValid(t, s, measure, api.OK, 0)
	for i := 1; i < 5; i++ {
		l := widest()
		*parts(&l)[i] = *parts(&measure)[i]
		checkValid(t, s, l, api.OK, 0)
		*parts(&l)[i]--
		checkValid(t, s, l, api.ErrLimit, -1)
		*parts(&l)[i] = 0
		checkValid(t, s, l, api.ErrLimit, -1)
		l = measure
		*parts(&l)[i]--
		checkValid(t, s, l, api.ErrLimit, -1)
	}
	checkValid(t, made(light()), api.Limits{Nodes: 1, Depth: 1}, api.OK, 0)
	checkValid(t, made(light()), api.Limits{}, api.ErrLimit, -1)
}

// plainMeasure is Measure by the chapter's words.
func plainMeasure(s api.Scene) api.Limits {
	var texts []string
	for _, n := range s.Nodes {
		texts = append(texts, n.Texts...)
	}
	slices.Sort(texts)
	m := api.Limits{Nodes: len(s.Nodes), Edges: graph.Edges(s), Depth: graph.Depth(s)}
	for _, text := range slices.Compact(texts) {
		m.Text += len(text)
	}
	return m
}

// between tells whether all numbers are from low to high.
func between(l []int64, low, high int64) bool {
	return !slices.ContainsFunc(l, func(n int64) bool { return n < low || n > high })
}

// plainNode is what is wrong with a node by the words of chapters 7, 8 and 12.
func plainNode(n api.Node) api.Errno {
	numbers := []int{0, 0, 3, 3, 1, 1, 1, 4, 3}
	texts := []int{0, 1, 0, 1, 1, 2, 0, 0, 0}
	if n.Kind < 1 || n.Kind > 8 {
		return api.ErrKind
	}
	if len(n.Ints) != numbers[n.Kind] {
		return api.ErrField
	}
	ok, count := true, len(n.Kids) == 0
	switch n.Kind {
	case api.KGroup, api.KSwitch:
		count = true
	case api.KMove, api.KScale:
		ok, count = between(n.Ints, -1<<47, 1<<47), len(n.Kids) == 1
	case api.KBox, api.KBall, api.KLabel:
		ok = between(n.Ints, 0, 1<<47)
	case api.KLight:
		ok = between(n.Ints[:3], 0, 255) && between(n.Ints[3:], 0, 1)
	}
	switch {
	case !ok:
		return api.ErrField
	case len(n.Texts) != texts[n.Kind] || slices.ContainsFunc(n.Texts, func(s string) bool { return !utf8.ValidString(s) }):
		return api.ErrText
	case !count:
		return api.ErrKids
	}
	return api.OK
}

// plainTyped is Typed by the chapter's words.
func plainTyped(s api.Scene) (api.Errno, int) {
	for at, n := range s.Nodes {
		if e := plainNode(n); e != api.OK {
			return e, at
		}
	}
	return api.OK, 0
}

// plainValid is Valid by the chapter's words, within limits that may be.
func plainValid(s api.Scene, l api.Limits) (api.Errno, int) {
	if e, at := plainTyped(s); e != api.OK {
		return e, at
	}
	if e, at := graph.Check(s); e != api.OK {
		return e, at
	}
	m := plainMeasure(s)
	if m.Nodes > l.Nodes || m.Edges > l.Edges || m.Depth > l.Depth || m.Text > l.Text {
		return api.ErrLimit, -1
	}
	return api.OK, 0
}

// checkGreater wants what is valid to be so within greater limits, and within its own measure, with any Bytes.
func checkGreater(t *testing.T, s api.Scene, l api.Limits) {
	t.Helper()
	m := Measure(s)
	for _, bytes := range []int{0, 1, 77, most} {
		m.Bytes = bytes
		checkValid(t, s, m, api.OK, 0)
	}
	for i := range 5 {
		more := l
		for _, n := range []int{*parts(&l)[i] + 1, most} {
			*parts(&more)[i] = min(n, most)
			checkValid(t, s, more, api.OK, 0)
		}
	}
	checkValid(t, s, widest(), api.OK, 0)
}

// checkOrders wants a scene in another order to have the same measure, and to be valid just if it is.
func checkOrders(t *testing.T, s api.Scene, l api.Limits, to []int) {
	t.Helper()
	x := moved(s, to)
	if a, b := Measure(s), Measure(x); a != b {
		t.Errorf("Measure(%.300v): %v, but of %.300v %v", s, a, x, b)
	}
	e, _ := Valid(s, l)
	f, _ := Valid(x, l)
	if (e == api.OK) != (f == api.OK) {
		t.Errorf("Valid(%.300v, %v): %d, but of %.300v %d", s, l, e, x, f)
	}
	if e == api.ErrLimit && f != api.ErrLimit {
		t.Errorf("Valid(%.300v, %v): ErrLimit, but of %.300v %d", s, l, x, f)
	}
}

// checkAll holds all calls with a scene against the promises' words.
func checkAll(t *testing.T, s api.Scene, l api.Limits, to []int) api.Errno {
	t.Helper()
	m := plainMeasure(s)
	checkMeasure(t, s, m.Nodes, m.Edges, m.Depth, m.Text)
	e, at := plainTyped(s)
	checkTyped(t, s, e, at)
	e, at = plainValid(s, l)
	checkValid(t, s, l, e, at)
	checkOrders(t, s, l, to)
	if e == api.OK {
		checkGreater(t, s, l)
	}
	return e
}

// P12.3: with scenes that are hand-made.
func TestConsequences(t *testing.T) {
	s := made(light(), move(0), label("ab", "ab"), group("abc", 2, 1, 0, 1))
	m := Measure(s)
	checkGreater(t, s, m)
	for _, to := range [][]int{{0, 1, 2, 3}, {3, 2, 1, 0}, {1, 2, 3, 0}, {2, 0, 3, 1}} {
		checkOrders(t, s, m, to)
		checkValid(t, moved(s, to), m, api.OK, 0)
		less := m
		less.Edges--
		checkValid(t, moved(s, to), less, api.ErrLimit, -1)
	}
}

// P12.1 to P12.3: all scenes of at most two nodes out of some, with all roots.
func TestAllSmallScenes(t *testing.T) {
	var some []api.Node
	for kid := -1; kid <= 2; kid++ {
		some = append(some, group("a", kid), group("", 1, kid), move(kid))
	}
	some = append(some, group("ab"), light(), label("a", "ab"), box("a"), box("\xff"), api.Node{}, api.Node{Kind: api.KMove}, api.Node{Kind: api.KMove, Ints: []int64{0, 0, 0}})
	l := api.Limits{Nodes: 2, Edges: 1, Depth: 2, Text: 2}
	met := map[api.Errno]int{}
	for root := -1; root <= 2; root++ {
		met[checkAll(t, api.Scene{Root: root}, l, nil)]++
		for _, a := range some {
			met[checkAll(t, api.Scene{Nodes: []api.Node{a}, Root: root}, l, []int{0})]++
			for _, b := range some {
				met[checkAll(t, api.Scene{Nodes: []api.Node{a, b}, Root: root}, l, []int{1, 0})]++
			}
		}
	}
	for _, e := range []api.Errno{api.OK, api.ErrKind, api.ErrField, api.ErrText, api.ErrKids, api.ErrRef, api.ErrCycle, api.ErrLoose, api.ErrLimit} {
		if met[e] == 0 {
			t.Errorf("no scene of %d", e)
		}
	}
}

// source makes scenes that are often right, and limits near their measure.
type source struct{ next func(n int) int }

// places are the places from 0 on, mixed.
func (r source) places(count int) []int {
	l := make([]int, count)
	for i := range l {
		j := r.next(i + 1)
		l[i], l[j] = l[j], i
	}
	return l
}

func (r source) text() string {
	return []string{"", "a", "b", "ab", "abc", "\u20ac", "\u00e9", "a\u0301"}[r.next(8)]
}

// node has these kids, and a kind that lets it have so many.
func (r source) node(kids []int) api.Node {
	var n api.Node
	switch {
	case len(kids) == 1 && r.next(2) == 1:
		n = move(0)
		if r.next(2) == 1 {
			n.Kind = api.KScale
		}
	case len(kids) > 0 || r.next(4) == 1:
		n = group(r.text())
		if r.next(3) == 1 {
			n = api.Node{Kind: api.KSwitch, Ints: []int64{-5}}
		}
	default:
		n = []api.Node{box(r.text()), label(r.text(), r.text()), light(), {Kind: api.KBall, Ints: []int64{5}, Texts: []string{r.text()}}}[r.next(4)]
	}
	n.Kids = kids
	return n
}

// scene has nothing wrong; its order is mixed.
func (r source) scene() api.Scene {
	count := 1 + r.next(10)
	kids := make([][]int, count)
	for at := range count - 1 {
		over := r.next(at + 1)
		kids[over] = append(kids[over], at+1)
		if r.next(3) == 1 {
			kids[at] = append(kids[at], at+1+r.next(count-at-1))
		}
	}
	s := api.Scene{}
	for _, k := range kids {
		s.Nodes = append(s.Nodes, r.node(k))
	}
	return moved(s, r.places(count))
}

// breakIt makes something wrong with a scene, mostly.
func (r source) breakIt(s *api.Scene) {
	n := &s.Nodes[r.next(len(s.Nodes))]
	switch r.next(9) {
	case 0:
		n.Kind = r.next(11) - 1
	case 1:
		n.Ints = append(slices.Clone(n.Ints), 0)
	case 2:
		n.Ints = slices.Repeat([]int64{-1 << 50}, len(n.Ints))
	case 3:
		n.Texts = append(slices.Clone(n.Texts), "more")
	case 4:
		n.Texts = slices.Repeat([]string{"\xc3"}, len(n.Texts))
	case 5:
		n.Kids = append(n.Kids, r.next(len(s.Nodes)+2)-1)
	case 6:
		n.Kids = nil
	case 7:
		s.Root = r.next(len(s.Nodes)+2) - 1
	default:
		s.Nodes = append(s.Nodes, light())
	}
}

// limits are near a measure, and now and then just it.
func (r source) limits(m api.Limits) api.Limits {
	m.Bytes = r.next(3)
	if i := 1 + r.next(8); i < 5 {
		part := parts(&m)[i]
		*part = max(*part+r.next(3)-1, 0)
	}
	return m
}

// checkSource holds all calls against the promises' words, on what a source makes; it tells what Valid tells.
func checkSource(t *testing.T, r source) api.Errno {
	t.Helper()
	s := r.scene()
	if e, at := Valid(s, widest()); e != api.OK || at != 0 {
		t.Errorf("Valid(%.300v): %d at %d", s, e, at)
	}
	for range r.next(3) {
		r.breakIt(&s)
	}
	return checkAll(t, s, r.limits(plainMeasure(s)), r.places(len(s.Nodes)))
}

// P12.1 to P12.3
func TestManyScenes(t *testing.T) {
	r := source{rand.New(rand.NewSource(1)).Intn}
	met := map[api.Errno]int{}
	for range 10000 {
		met[checkSource(t, r)]++
		if t.Failed() {
			return
		}
	}
	for _, e := range []api.Errno{api.OK, api.ErrKind, api.ErrField, api.ErrText, api.ErrKids, api.ErrRef, api.ErrCycle, api.ErrLoose, api.ErrLimit} {
		if met[e] < 50 {
			t.Errorf("only %d scenes of %d", met[e], e)
		}
	}
}

// P12.1 to P12.3: whatever is handed in.
func FuzzAll(f *testing.F) {
	f.Add([]byte{})
	f.Add([]byte("\x03\x00\x01\x00\x02\x01\x01\x00\x01\x02\x03\x01\x00\x02\x01\x05\x02\x01"))
	f.Add([]byte("\x07\x01\x01\x01\x01\x02\x00\x00\x00\x01\x00\x01\x02\x01\x01\x00\x02\x00\x01\x07\x02\x01\x05\x00\x03"))
	f.Add([]byte("\x09\x00\x01\x02\x01\x00\x01\x03\x01\x04\x01\x00\x01\x02\x00\x04\x02\x01\x03\x02\x02\x01\x01\x03\x03\x03\x01\x08\x02"))
	f.Fuzz(func(t *testing.T, b []byte) {
		at := 0
		checkSource(t, source{func(n int) int {
			at++
			if at > len(b) {
				return 0
			}
			return int(b[at-1]) % n
		}})
	})
}

// checkGreat wants a great scene, which isn't told whole, to have this measure, and to be valid within it, but within nothing less.
func checkGreat(t *testing.T, what string, s api.Scene, m api.Limits) {
	t.Helper()
	if got := Measure(s); got != m {
		t.Errorf("%s: %v, not %v", what, got, m)
	}
	if e, at := Valid(s, m); e != api.OK || at != 0 {
		t.Errorf("%s: %d at %d", what, e, at)
	}
	for i := 1; i < 5; i++ {
		less := m
		*parts(&less)[i]--
		want := api.ErrLimit
		if *parts(&less)[i] < 0 {
			want = api.ErrArg
		}
		if e, at := Valid(s, less); e != want || at != -1 {
			t.Errorf("%s: within %v %d at %d", what, less, e, at)
		}
	}
}

// P12.1 to P12.3: ways down that are long.
func TestLongWays(t *testing.T) {
	const count = 1 << 16
	s := made(light())
	for at := range count - 1 {
		s.Nodes = append(s.Nodes, move(at))
	}
	s.Root = count - 1
	m := api.Limits{Nodes: count, Edges: count - 1, Depth: count}
	checkGreat(t, "a chain", s, m)
	checkGreat(t, "a chain from the root on", moved(s, falling(count)), m)
	s.Nodes[0] = move(count - 1)
	if e, at := Valid(s, widest()); e != api.ErrCycle || at != 0 {
		t.Errorf("a ring: %d at %d", e, at)
	}
	s.Nodes[count-1].Kind = 9
	if e, at := Valid(s, widest()); e != api.ErrKind || at != count-1 {
		t.Errorf("a ring of which the last node has no kind: %d at %d", e, at)
	}
}

// P12.1 to P12.3: more ways down than could be gone one by one, and each with the same name.
func TestManyWays(t *testing.T) {
	const count = 5000
	s := made(box("wood"))
	for at := range count {
		s.Nodes = append(s.Nodes, group("name", at, at))
	}
	s.Root = count
	checkGreat(t, "a ladder", s, api.Limits{Nodes: count + 1, Edges: 2 * count, Depth: count + 1, Text: 8})
}

// P12.1 to P12.3: many nodes side by side, with many texts.
func TestWideScenes(t *testing.T) {
	const count = 1 << 16
	s, all := api.Scene{Root: count}, group("")
	for at := range count {
		// Each text of four bytes stands twice.
		s.Nodes = append(s.Nodes, box(string([]byte{'a' + byte(at>>1&15), 'a' + byte(at>>5&15), 'a' + byte(at>>9&15), 'a' + byte(at>>13)})))
		all.Kids = append(all.Kids, at)
	}
	s.Nodes = append(s.Nodes, all)
	checkGreat(t, "a wide one", s, api.Limits{Nodes: count + 1, Edges: count, Depth: 2, Text: count / 2 * 4})
	once := made(light(), group("often", make([]int, 1<<18)...))
	checkGreat(t, "one, often", once, api.Limits{Nodes: 2, Edges: 1 << 18, Depth: 2, Text: 5})
	long := made(label(strings.Repeat("\u20ac", 1<<18), strings.Repeat("\u20ac", 1<<18)))
	checkGreat(t, "a long text", long, api.Limits{Nodes: 1, Depth: 1, Text: 3 << 18})
}
