package unfold

import (
	"math"
	"math/rand"
	"slices"
	"strconv"
	"strings"
	"testing"

	"diorama/api"
	"diorama/canon"
	"diorama/graph"
)

// scene is nodes that have these kids, and nothing else.
func scene(root int, kids ...[]int) api.Scene {
	s := api.Scene{Root: root}
	for _, k := range kids {
		s.Nodes = append(s.Nodes, api.Node{Kids: k})
	}
	return s
}

// made is nodes, of which the last one is the root.
func made(nodes ...api.Node) api.Scene {
	return api.Scene{Nodes: nodes, Root: len(nodes) - 1}
}

func group(kids ...int) api.Node {
	return api.Node{Kind: api.KGroup, Texts: []string{""}, Kids: kids}
}

func box(n int64) api.Node {
	return api.Node{Kind: api.KBox, Ints: []int64{n, n, n}, Texts: []string{"wood"}}
}

func sameNode(a, b api.Node) bool {
	return a.Kind == b.Kind && slices.Equal(a.Ints, b.Ints) && slices.Equal(a.Texts, b.Texts) && slices.Equal(a.Kids, b.Kids)
}

func same(a, b api.Scene) bool {
	return a.Root == b.Root && slices.EqualFunc(a.Nodes, b.Nodes, sameNode)
}

// moved is a scene whose node at a place stands at another one, by to; the same scene, in another order. Where to tells one place of several nodes, the last of them stands there.
func moved(s api.Scene, to []int) api.Scene {
	out := api.Scene{Nodes: make([]api.Node, slices.Max(to)+1), Root: to[s.Root]}
	for at, n := range s.Nodes {
		var kids []int
		for _, kid := range n.Kids {
			kids = append(kids, to[kid])
		}
		out.Nodes[to[at]] = api.Node{Kind: n.Kind, Ints: n.Ints, Texts: n.Texts, Kids: kids}
	}
	return out
}

func isRight(s api.Scene) bool {
	e, _ := graph.Check(s)
	return e == api.OK
}

// plainTree is the tree of a node by the chapter's words, written out.
func plainTree(s api.Scene, at int) string {
	n := s.Nodes[at]
	var b strings.Builder
	b.WriteString("<" + strconv.Itoa(n.Kind))
	for _, x := range n.Ints {
		b.WriteString(" i" + strconv.FormatInt(x, 10))
	}
	for _, x := range n.Texts {
		b.WriteString(" t" + strconv.Quote(x))
	}
	for _, kid := range n.Kids {
		b.WriteString(plainTree(s, kid))
	}
	return b.String() + ">"
}

// plainEqual is Equal by the chapter's words.
func plainEqual(a, b api.Scene) bool {
	return isRight(a) && isRight(b) && plainTree(a, a.Root) == plainTree(b, b.Root)
}

// plainCount is how many nodes a node's tree has.
func plainCount(s api.Scene, at int) int {
	count := 1
	for _, kid := range s.Nodes[at].Kids {
		count += plainCount(s, kid)
	}
	return count
}

// plainSize is Size by the chapter's words.
func plainSize(s api.Scene, most int) int {
	if !isRight(s) {
		return 0
	}
	return min(plainCount(s, s.Root), max(most, 0))
}

// plainShare is Share by the chapter's words: of the nodes with one tree, one stays, and all of it is put in order.
func plainShare(s api.Scene) (api.Scene, api.Errno) {
	if e, _ := graph.Check(s); e != api.OK {
		return api.Scene{}, e
	}
	var met []string
	to := make([]int, len(s.Nodes))
	for at := range s.Nodes {
		tree := plainTree(s, at)
		to[at] = slices.Index(met, tree)
		if to[at] < 0 {
			to[at] = len(met)
			met = append(met, tree)
		}
	}
	return canon.Canon(moved(s, to))
}

// apart is a scene with the tree of s in which no node is the kid of two, or twice.
func apart(s api.Scene) api.Scene {
	var out api.Scene
	var down func(at int) int
	down = func(at int) int {
		n := s.Nodes[at]
		var kids []int
		for _, kid := range n.Kids {
			kids = append(kids, down(kid))
		}
		out.Nodes = append(out.Nodes, api.Node{Kind: n.Kind, Ints: n.Ints, Texts: n.Texts, Kids: kids})
		return len(out.Nodes) - 1
	}
	out.Root = down(s.Root)
	return out
}

// mark is what lies in the spare room behind the lists that marked makes.
const mark = 77

// roomy is a list with two marks in the spare room behind it.
func roomy[T any](l []T, m T) []T {
	return append(append(make([]T, 0, len(l)+2), l...), m, m)[:len(l)]
}

// markedRoom tells whether a list has still its marks behind it.
func markedRoom[T comparable](l []T, m T) bool {
	return slices.Equal(l[len(l):cap(l)][:2], []T{m, m})
}

// marked is a scene like s, with marks in the spare room behind all its lists.
func marked(s api.Scene) api.Scene {
	nodes := make([]api.Node, 0, len(s.Nodes)+1)
	for _, n := range s.Nodes {
		nodes = append(nodes, api.Node{Kind: n.Kind, Ints: roomy(n.Ints, mark), Texts: roomy(n.Texts, "mark"), Kids: roomy(n.Kids, mark)})
	}
	nodes[:cap(nodes)][len(nodes)].Kind = mark
	return api.Scene{Nodes: nodes, Root: s.Root}
}

// checkMarked wants a scene that marked made of s to be still as it was, its spare room too.
func checkMarked(t *testing.T, what string, x, s api.Scene) {
	t.Helper()
	ok := same(x, s) && sameNode(x.Nodes[:len(x.Nodes)+1][len(x.Nodes)], api.Node{Kind: mark})
	for _, n := range x.Nodes {
		ok = ok && markedRoom(n.Ints, mark) && markedRoom(n.Texts, "mark") && markedRoom(n.Kids, mark)
	}
	if !ok {
		t.Errorf("%s: what was handed in became %.300v, from %.300v", what, x, s)
	}
}

// spoil changes all that a scene's lists hold, their spare room too.
func spoil(s api.Scene) {
	for _, n := range s.Nodes {
		spoilNode(n)
	}
	clear(s.Nodes[:cap(s.Nodes)])
}

func spoilNode(n api.Node) {
	fill(n.Ints, -99)
	fill(n.Texts, "spoilt")
	fill(n.Kids, -99)
}

// fill sets all of a list, its spare room too.
func fill[T any](l []T, x T) {
	l = l[:cap(l)]
	for i := range l {
		l[i] = x
	}
}

// checkEqual wants Equal to tell this, either way round.
func checkEqual(t *testing.T, a, b api.Scene, want bool) {
	t.Helper()
	x, y := marked(a), marked(b)
	for range 2 {
		if got := Equal(x, y); got != want {
			t.Errorf("Equal(%.300v, %.300v): %v", a, b, got)
		}
		if got := Equal(y, x); got != want {
			t.Errorf("Equal(%.300v, %.300v): %v", b, a, got)
		}
	}
	checkMarked(t, "Equal", x, a)
	checkMarked(t, "Equal", y, b)
}

// checkSize wants Size to tell this many, of this most.
func checkSize(t *testing.T, s api.Scene, most, want int) {
	t.Helper()
	x := marked(s)
	for range 2 {
		if got := Size(x, most); got != want {
			t.Errorf("Size(%.300v, %d): %d, not %d", s, most, got, want)
		}
	}
	checkMarked(t, "Size", x, s)
}

// checkSizes wants Size to tell how many nodes there are, and most, if that is less.
func checkSizes(t *testing.T, s api.Scene, count int) {
	t.Helper()
	for _, most := range []int{math.MinInt, -2, -1, 0, 1, 2, 3, count / 2, count - 1, count, count + 1, 2 * count, math.MaxInt - 1, math.MaxInt} {
		checkSize(t, s, most, min(count, max(most, 0)))
	}
}

// checkShare wants Share to make this of s, in new memory.
func checkShare(t *testing.T, s, want api.Scene) {
	t.Helper()
	x := marked(s)
	got, e := Share(x)
	kept, _ := Share(x)
	if e != api.OK || !same(got, want) {
		t.Errorf("Share(%.300v): %.300v, %d, not %.300v", s, got, e, want)
	}
	checkMarked(t, "Share", x, s)
	for at, n := range got.Nodes {
		if at < len(want.Nodes) && !sameNode(n, want.Nodes[at]) {
			t.Errorf("node %d of %.300v: it became %v, as another one was changed", at, want, n)
		}
		spoilNode(n)
	}
	spoil(got)
	checkMarked(t, "the answer, changed", x, s)
	spoil(x)
	if !same(kept, want) {
		t.Errorf("Share(%.300v): the answer became %.300v, as the scene or another answer was changed", s, kept)
	}
}

// checkShared wants a scene that Share made to be canonical, and to stay as it is.
func checkShared(t *testing.T, s api.Scene) {
	t.Helper()
	shared, _ := Share(s)
	if !canon.Is(shared) || shared.Root != len(shared.Nodes)-1 {
		t.Errorf("Share(%.300v): %.300v isn't canonical", s, shared)
	}
	checkShare(t, shared, shared)
	checkEqual(t, s, shared, true)
}

// checkNone wants a wrong scene to have this error, no size, and to be equal to none, not even to itself.
func checkNone(t *testing.T, s api.Scene, e api.Errno) {
	t.Helper()
	x := marked(s)
	if got, gotE := Share(x); gotE != e || len(got.Nodes) != 0 || got.Root != 0 {
		t.Errorf("Share(%.300v): %.300v, %d, not error %d", s, got, gotE, e)
	}
	checkMarked(t, "Share", x, s)
	for _, most := range []int{math.MinInt, -1, 0, 1, 9, math.MaxInt} {
		checkSize(t, s, most, 0)
	}
	checkEqual(t, s, s, false)
	checkEqual(t, s, scene(0, nil), false)
	checkEqual(t, s, api.Scene{}, false)
}

// checkAll holds all calls with one scene against the promises' words.
func checkAll(t *testing.T, s api.Scene) {
	t.Helper()
	want, e := plainShare(s)
	if e != api.OK {
		checkNone(t, s, e)
		return
	}
	checkShare(t, s, want)
	checkShared(t, s)
	checkSizes(t, s, plainSize(s, math.MaxInt))
	checkEqual(t, s, s, true)
	checkEqual(t, s, apart(s), true)
	checkShare(t, apart(s), want)
}

// checkTwo holds the calls with two scenes against the promises' words.
func checkTwo(t *testing.T, a, b api.Scene) bool {
	t.Helper()
	want := plainEqual(a, b)
	checkEqual(t, a, b, want)
	x, e := Share(a)
	y, f := Share(b)
	if e == api.OK && f == api.OK && same(x, y) != want {
		t.Errorf("the Shares of %.300v and %.300v are %.300v and %.300v", a, b, x, y)
	}
	return want
}

// P11.1, P11.2, P11.3: the chapter's example.
func TestExample(t *testing.T) {
	alike, twice := made(box(1), box(1), group(0, 1)), made(box(1), group(0, 0))
	checkEqual(t, alike, twice, true)
	checkSizes(t, alike, 3)
	checkSizes(t, twice, 3)
	checkShare(t, alike, twice)
	checkShare(t, twice, twice)
}

// P11.1: which scenes are the same tree.
func TestEqual(t *testing.T) {
	l := made(box(1), box(2), group(0, 1), group(2, 0))
	for _, x := range []struct {
		what string
		s    api.Scene
		want bool
	}{
		{"itself", l, true},
		{"in another order", api.Scene{Nodes: []api.Node{group(2, 3), box(2), group(3, 1), box(1)}, Root: 0}, true},
		{"apart", made(box(1), box(2), group(0, 1), box(1), group(2, 3)), true},
		{"kids exchanged", made(box(1), box(2), group(0, 1), group(0, 2)), false},
		{"kids exchanged below", made(box(1), box(2), group(1, 0), group(2, 0)), false},
		{"another kid", made(box(1), box(2), group(0, 1), group(2, 1)), false},
		{"another kind", made(box(1), api.Node{Kind: api.KBall, Ints: []int64{2, 2, 2}, Texts: []string{"wood"}}, group(0, 1), group(2, 0)), false},
		{"another number", made(box(1), box(3), group(0, 1), group(2, 0)), false},
		{"another text", made(box(1), api.Node{Kind: api.KBox, Ints: []int64{2, 2, 2}, Texts: []string{"Wood"}}, group(0, 1), group(2, 0)), false},
		{"a number more", made(box(1), api.Node{Kind: api.KBox, Ints: []int64{2, 2, 2, 2}, Texts: []string{"wood"}}, group(0, 1), group(2, 0)), false},
		{"a text more", made(box(1), api.Node{Kind: api.KBox, Ints: []int64{2, 2, 2}, Texts: []string{"wood", ""}}, group(0, 1), group(2, 0)), false},
		{"a kid more", made(box(1), box(2), group(0, 1), group(2, 0, 0)), false},
		{"a kid less", made(box(1), box(2), group(0, 1), group(2)), false},
		{"a kid's tree alone", made(box(1), box(2), group(0, 1)), false},
		{"a leaf", made(box(1)), false},
		{"a loose node more", made(box(1), box(1), box(2), group(0, 2), group(3, 0)), false},
		{"none", api.Scene{}, false},
	} {
		checkEqual(t, l, x.s, x.want)
		if got := plainEqual(l, x.s); got != x.want {
			t.Errorf("%s: %v by the words", x.what, got)
		}
	}
}

// P11.2: each node is counted as often as it is led to.
func TestSize(t *testing.T) {
	for _, x := range []struct {
		s     api.Scene
		count int
	}{
		{scene(0, nil), 1},
		{scene(0, []int{1}, nil), 2},
		{scene(1, nil, []int{0, 0}), 3},
		{scene(1, nil, []int{0, 0, 0, 0, 0}), 6},
		{scene(2, nil, []int{0, 0}, []int{1, 1}), 7},
		{scene(2, nil, []int{0, 0}, []int{1, 0, 1}), 8},
		{scene(2, nil, []int{0, 0, 0}, []int{1, 1, 1}), 13},
		{scene(3, nil, nil, []int{0, 1}, []int{0, 1, 2}), 6},
		{scene(0, []int{1, 2}, []int{2, 3}, []int{3, 3}, nil), 9},
	} {
		checkSizes(t, x.s, x.count)
		checkSizes(t, apart(x.s), x.count)
	}
}

// doubled is a node, and over it so many that have the one before as kid twice.
func doubled(count int) api.Scene {
	s := scene(count, nil)
	for at := range count {
		s.Nodes = append(s.Nodes, api.Node{Kids: []int{at, at}})
	}
	return s
}

// P11.2: sizes up to the greatest number, and beyond it.
func TestGreatSizes(t *testing.T) {
	for count := range 63 {
		checkSizes(t, doubled(count), 1<<(count+1)-1)
	}
	most := doubled(62)
	checkSize(t, most, math.MaxInt, math.MaxInt)
	checkSize(t, most, math.MaxInt-1, math.MaxInt-1)
	most.Nodes = append(most.Nodes, api.Node{Kids: []int{62}})
	most.Root = 63
	for _, s := range []api.Scene{most, doubled(63), doubled(64), doubled(65), doubled(200), doubled(5000)} {
		for _, most := range []int{math.MinInt, -1, 0, 1, 2, 3, 1000, 1 << 31, 1 << 32, 1<<62 - 1, 1 << 62, math.MaxInt - 1, math.MaxInt} {
			checkSize(t, s, most, max(most, 0))
		}
	}
	// The kids' sizes are each within a number, their sum isn't, and would be small again if it wrapped round.
	wide := doubled(61)
	for _, kids := range []int{2, 3, 4, 5, 8, 9} {
		s := api.Scene{Nodes: append(slices.Clone(wide.Nodes), api.Node{Kids: slices.Repeat([]int{61}, kids)}), Root: 62}
		checkSize(t, s, math.MaxInt, math.MaxInt)
		checkSize(t, s, math.MaxInt-1, math.MaxInt-1)
		checkSize(t, s, 1<<62, 1<<62)
	}
}

// P11.3: what the scene is in which no two nodes have one tree.
func TestShare(t *testing.T) {
	for _, x := range []struct{ s, want api.Scene }{
		{scene(0, nil), scene(0, nil)},
		{scene(0, []int{1}, nil), scene(1, nil, []int{0})},
		{scene(0, []int{2, 1}, nil, nil), scene(1, nil, []int{0, 0})},
		{scene(0, []int{1, 2, 3}, nil, []int{3}, nil), scene(2, nil, []int{0}, []int{0, 1, 0})},
		// Nodes over ones that were merged are merged, too.
		{scene(6, nil, nil, nil, nil, []int{0, 1}, []int{2, 3}, []int{4, 5}), doubled(2)},
		{scene(6, nil, nil, nil, nil, []int{0, 0}, []int{2, 3}, []int{4, 5, 1}), scene(2, nil, []int{0, 0}, []int{1, 1, 0})},
		{made(box(2), box(1), box(2), group(2, 1), group(0, 1), group(4, 3, 1)), made(box(2), box(1), group(0, 1), group(2, 2, 1))},
		// Kids in another order make another tree.
		{made(box(1), box(2), box(1), group(0, 1), group(1, 2), group(3, 4)), made(box(1), box(2), group(0, 1), group(1, 0), group(2, 3))},
		{made(box(1), group(0), group(0), group(1, 2)), made(box(1), group(0), group(1, 1))},
		{made(box(1), group(0), api.Node{Kind: api.KSwitch, Ints: []int64{0}, Texts: []string{""}, Kids: []int{0}}, group(1, 2)), made(box(1), group(0), api.Node{Kind: api.KSwitch, Ints: []int64{0}, Texts: []string{""}, Kids: []int{0}}, group(1, 2))},
	} {
		checkShare(t, x.s, x.want)
		checkAll(t, x.s)
	}
}

// P11.1, P11.2, P11.3: wrong scenes have graph.Check's error, no size, and are equal to none.
func TestWrongScenes(t *testing.T) {
	for _, x := range []struct {
		e api.Errno
		s api.Scene
	}{
		{api.ErrRef, api.Scene{}},
		{api.ErrRef, api.Scene{Nodes: []api.Node{}}},
		{api.ErrRef, api.Scene{Root: -1}},
		{api.ErrRef, scene(-1, nil)},
		{api.ErrRef, scene(1, nil)},
		{api.ErrRef, scene(math.MinInt, nil, []int{0})},
		{api.ErrRef, scene(math.MaxInt, nil, []int{0})},
		{api.ErrRef, scene(0, []int{1})},
		{api.ErrRef, scene(1, nil, []int{0, -1})},
		{api.ErrRef, scene(1, nil, []int{math.MaxInt, 0})},
		{api.ErrRef, scene(1, nil, []int{0, math.MinInt})},
		{api.ErrRef, scene(0, []int{0}, []int{2})},
		{api.ErrCycle, scene(0, []int{0})},
		{api.ErrCycle, scene(0, []int{1}, []int{0})},
		{api.ErrCycle, scene(2, nil, []int{0, 2}, []int{1})},
		{api.ErrCycle, scene(0, nil, []int{1})},
		{api.ErrLoose, scene(0, nil, nil)},
		{api.ErrLoose, scene(1, nil, nil)},
		{api.ErrLoose, scene(0, nil, []int{0})},
		{api.ErrLoose, scene(2, nil, []int{0}, []int{0})},
	} {
		checkNone(t, x.s, x.e)
	}
	// The tree of the root may be the same: the scene is wrong all the same.
	checkEqual(t, made(box(1)), api.Scene{Nodes: []api.Node{box(1), box(1)}}, false)
}

// P11.1, P11.3: nil and an empty list are one.
func TestEmptyLists(t *testing.T) {
	none := api.Node{Kind: 3}
	empty := api.Node{Kind: 3, Ints: []int64{}, Texts: []string{}, Kids: []int{}}
	checkEqual(t, made(none), made(empty), true)
	checkShare(t, made(none, empty, group(0, 1)), made(none, group(0, 0)))
}

// lists are all lists of at most two of these.
func lists[T any](all ...T) [][]T {
	l := [][]T{nil}
	for _, a := range all {
		l = append(l, []T{a})
		for _, b := range all {
			l = append(l, []T{a, b})
		}
	}
	return l
}

// manyNodes are nodes that are hard to tell apart by texts that say less than all of them. Their kids are places below 12.
func manyNodes() []api.Node {
	var l []api.Node
	for _, kind := range []int{0, 1, 11, -1} {
		for _, ints := range lists[int64](0, 1, 11, -1) {
			for _, texts := range lists("", "0", "1", " ", "1 ", "0 0 ", "\x00", "\xff") {
				for _, kids := range [][]int{nil, {0}, {1}, {11}, {1, 1}, {1, 0}} {
					l = append(l, api.Node{Kind: kind, Ints: ints, Texts: texts, Kids: kids})
				}
			}
		}
	}
	return l
}

// P11.1, P11.3: of many nodes that differ in a little each stays one of its own, and each one's twin is merged with it.
func TestNodesThatDiffer(t *testing.T) {
	var leaves, twice []api.Node
	for at := range 12 {
		leaves = append(leaves, api.Node{Kind: 1000 + at})
	}
	l := append(leaves, manyNodes()...)
	root := api.Node{Kind: 2000}
	for at := range l {
		root.Kids = append(root.Kids, at)
	}
	s := made(append(slices.Clone(l), root)...)
	if got, e := Share(s); e != api.OK || !same(got, s) {
		t.Errorf("%d of %d nodes stay, error %d", len(got.Nodes), len(s.Nodes), e)
	}
	twice = append(slices.Clone(l), l[12:]...)
	both := api.Node{Kind: 2000, Kids: slices.Clone(root.Kids)}
	for at := len(l); at < len(twice); at++ {
		both.Kids = append(both.Kids, at)
		root.Kids = append(root.Kids, at-len(l)+12)
	}
	want := made(append(slices.Clone(l), root)...)
	if got, e := Share(made(append(twice, both)...)); e != api.OK || !same(got, want) {
		t.Errorf("of each twice: %d nodes stay, not %d, error %d", len(got.Nodes), len(want.Nodes), e)
	}
}

// P11.1: fields that are as great and as small as can be.
func TestGreatFields(t *testing.T) {
	l := []api.Node{
		{Kind: math.MaxInt},
		{Kind: math.MinInt},
		{Kind: 0},
		{Kind: 1 << 32},
		{Kind: 1 << 53},
		{Kind: 1<<53 + 1},
		{Ints: []int64{0}},
		{Ints: []int64{1 << 32}},
		{Ints: []int64{1 << 53}},
		{Ints: []int64{1<<53 + 1}},
		{Ints: []int64{math.MaxInt64}},
		{Ints: []int64{math.MinInt64}},
		{Ints: []int64{math.MaxInt64, math.MinInt64}},
		{Ints: []int64{math.MinInt64, math.MaxInt64}},
		{Texts: []string{strings.Repeat("a", 1<<16)}},
		{Texts: []string{strings.Repeat("a", 1<<16-1)}},
		{Texts: []string{strings.Repeat("a", 1<<16-1) + "b"}},
		{Texts: []string{"b" + strings.Repeat("a", 1<<16-1)}},
		{Texts: []string{"\xff\xfe"}},
		{Texts: []string{"\xff\xff"}},
		{Texts: []string{"\ufffd"}},
	}
	for i, a := range l {
		for j, b := range l {
			checkEqual(t, made(a), made(b), i == j)
			checkEqual(t, made(a, group(0, 0)), made(b, a, group(0, 1)), i == j)
		}
	}
}

// P11.3: nodes whose lists are one in memory have lists of their own then.
func TestListsInOneRoom(t *testing.T) {
	kids, ints, texts := []int{1, 0, 1}, []int64{1, 2, 3}, []string{"a", "b", "c"}
	s := made(
		api.Node{Ints: ints, Texts: texts},
		api.Node{Ints: ints[:2], Texts: texts[1:]},
		api.Node{Ints: ints, Texts: texts, Kids: kids},
		api.Node{Ints: ints[1:], Texts: texts[:2], Kids: kids[1:2]},
		api.Node{Ints: ints, Texts: texts, Kids: kids[:2]},
		api.Node{Ints: ints, Texts: texts, Kids: kids[:2]},
		api.Node{Kids: []int{2, 3, 4, 5}},
	)
	want, _ := plainShare(s)
	got, e := Share(s)
	if e != api.OK || !same(got, want) {
		t.Errorf("%v, %d, not %v", got, e, want)
	}
	for at, n := range got.Nodes {
		if !sameNode(n, want.Nodes[at]) {
			t.Errorf("node %d became %v, as another one was changed", at, n)
		}
		spoilNode(n)
	}
	if !slices.Equal(kids, []int{1, 0, 1}) || !slices.Equal(ints, []int64{1, 2, 3}) || !slices.Equal(texts, []string{"a", "b", "c"}) {
		t.Errorf("the lists became %v, %v, %v", kids, ints, texts)
	}
}

// kinds are scenes like s, with all ways to choose among two kinds.
func kinds(s api.Scene) []api.Scene {
	var l []api.Scene
	for bits := range 1 << len(s.Nodes) {
		x := api.Scene{Root: s.Root}
		for at, n := range s.Nodes {
			x.Nodes = append(x.Nodes, api.Node{Kind: bits >> at & 1, Kids: n.Kids})
		}
		l = append(l, x)
	}
	return l
}

// rightOnes are all right scenes of at most three nodes, of two kinds, with at most two kids each.
func rightOnes() []api.Scene {
	var l []api.Scene
	add := func(s api.Scene) {
		if isRight(s) {
			l = append(l, kinds(s)...)
		}
	}
	all := lists(0, 1, 2)
	for _, a := range all {
		add(scene(0, a))
		for _, b := range all {
			for root := range 2 {
				add(scene(root, a, b))
			}
			for _, c := range all {
				for root := range 3 {
					add(scene(root, a, b, c))
				}
			}
		}
	}
	return l
}

// P11.1 to P11.3: all small scenes of two kinds, and all pairs of them.
func TestAllSmallScenes(t *testing.T) {
	l := rightOnes()
	// One node: 2 ways to choose kinds. Two: 2 roots, one kid or one twice, 4 ways. Three: 18 ways to lead from each root, 8 ways.
	if len(l) != 2+2*2*4+3*18*8 {
		t.Errorf("%d scenes", len(l))
	}
	trees := make([]string, len(l))
	shares := make([]api.Scene, len(l))
	for i, s := range l {
		checkAll(t, s)
		trees[i] = plainTree(s, s.Root)
		shares[i], _ = Share(s)
	}
	for i, a := range l {
		for j, b := range l {
			want := trees[i] == trees[j]
			if Equal(a, b) != want || same(shares[i], shares[j]) != want {
				t.Fatalf("%v and %v: Equal %v, Shares %v and %v", a, b, !want, shares[i], shares[j])
			}
		}
	}
}

// P11.1 to P11.3: wrong small scenes, too.
func TestAllSmallWrongScenes(t *testing.T) {
	for root := -1; root <= 2; root++ {
		checkAll(t, scene(root))
		for _, a := range lists(-1, 0, 1, 2) {
			checkAll(t, scene(root, a))
			for _, b := range lists(-1, 0, 1, 2) {
				checkAll(t, scene(root, a, b))
			}
		}
	}
}

// source makes scenes that are often right.
type source struct{ next func(n int) int }

// places are the places from 0 on, mixed.
func (r source) places(count int) []int {
	l := make([]int, count)
	for i := range l {
		j := r.next(i + 1)
		l[i], l[j] = l[j], i
	}
	return l
}

// node has a few fields, so that nodes that are alike are met often.
func (r source) node() api.Node {
	n := api.Node{Kind: r.next(2)}
	for range r.next(2) {
		n.Ints = append(n.Ints, int64(r.next(2)))
	}
	if r.next(4) == 1 {
		n.Texts = append(n.Texts, []string{"", "1 ", "\xff"}[r.next(3)])
	}
	return n
}

// scene has mostly kids behind their node, in an order that is then mixed.
func (r source) scene() api.Scene {
	count := 1 + r.next(8)
	s := api.Scene{}
	for range count {
		s.Nodes = append(s.Nodes, r.node())
	}
	for at := range count - 1 {
		over := r.next(at + 1)
		s.Nodes[over].Kids = append(s.Nodes[over].Kids, at+1)
		for range r.next(3) {
			s.Nodes[at].Kids = append(s.Nodes[at].Kids, at+1+r.next(count-at-1))
		}
	}
	return r.mixed(s)
}

// mixed is a scene in another order of its nodes.
func (r source) mixed(s api.Scene) api.Scene {
	return moved(s, r.places(len(s.Nodes)))
}

// broken is a scene with something wrong, mostly.
func (r source) broken(s api.Scene) api.Scene {
	s = moved(s, r.places(len(s.Nodes)))
	at := r.next(len(s.Nodes))
	switch r.next(3) {
	case 0:
		s.Nodes[at].Kids = append(s.Nodes[at].Kids, r.next(len(s.Nodes)+2)-1)
	case 1:
		s.Root = r.next(len(s.Nodes)+2) - 1
	default:
		s.Nodes = append(s.Nodes, r.node())
	}
	return s
}

// changed is a scene with another field, or with kids exchanged.
func (r source) changed(s api.Scene) api.Scene {
	s = r.mixed(s)
	at := r.next(len(s.Nodes))
	n := &s.Nodes[at]
	switch {
	case r.next(2) == 1 && len(n.Kids) > 1:
		i := r.next(len(n.Kids) - 1)
		n.Kids[i], n.Kids[i+1] = n.Kids[i+1], n.Kids[i]
	case r.next(2) == 1 && len(n.Kids) > 0:
		n.Kids = append(n.Kids, n.Kids[0])
	default:
		kids := n.Kids
		*n = r.node()
		n.Kids = kids
	}
	return s
}

// relative is a scene that is near another one.
func (r source) relative(s api.Scene) api.Scene {
	switch r.next(5) {
	case 0:
		return r.mixed(s)
	case 1:
		return r.mixed(apart(s))
	case 2:
		shared, _ := Share(s)
		return r.mixed(shared)
	case 3:
		return r.changed(s)
	default:
		return r.changed(apart(s))
	}
}

// checkSource holds all calls against the promises' words, on what a source makes; it tells whether two scenes were equal.
func checkSource(t *testing.T, r source) bool {
	t.Helper()
	s := r.scene()
	checkAll(t, s)
	if plainCount(s, s.Root) > 300 {
		return false
	}
	checkAll(t, r.broken(s))
	x := r.relative(s)
	checkAll(t, x)
	checkTwo(t, s, r.scene())
	return checkTwo(t, s, x)
}

// P11.1 to P11.3
func TestManyScenes(t *testing.T) {
	r := source{rand.New(rand.NewSource(1)).Intn}
	met := map[bool]int{}
	for range 4000 {
		met[checkSource(t, r)]++
		if t.Failed() {
			return
		}
	}
	if met[true] < 1000 || met[false] < 1000 {
		t.Errorf("equal, or not: %v", met)
	}
}

// P11.1 to P11.3: whatever is handed in.
func FuzzAll(f *testing.F) {
	f.Add([]byte{})
	f.Add([]byte("\x03\x00\x00\x00\x00\x01\x00\x00\x00\x01\x01\x01\x00\x01\x01\x02\x00\x00\x01\x03"))
	f.Add([]byte("\x07\x01\x01\x01\x01\x02\x00\x00\x00\x01\x00\x01\x02\x01\x01\x00\x02\x00\x01\x07\x02\x01\x05\x00\x03"))
	f.Add([]byte("\x05\x01\x00\x01\x01\x00\x00\x01\x01\x01\x00\x00\x01\x02\x00\x04\x02\x01\x03\x02\x02\x01\x01\x03\x03\x03\x01"))
	f.Fuzz(func(t *testing.T, b []byte) {
		at := 0
		checkSource(t, source{func(n int) int {
			at++
			if at > len(b) {
				return 0
			}
			return int(b[at-1]) % n
		}})
	})
}

// checkGreat wants a great scene, which isn't told whole, to have this many nodes in its tree, and to be shared as wanted.
func checkGreat(t *testing.T, what string, s, want api.Scene, size int) {
	t.Helper()
	if got := Size(s, math.MaxInt); got != size {
		t.Errorf("%s: Size %d, not %d", what, got, size)
	}
	got, e := Share(s)
	if e != api.OK || !same(got, want) || !canon.Is(got) {
		t.Errorf("%s: Share has %d nodes, not %d, or other ones, or error %d", what, len(got.Nodes), len(want.Nodes), e)
	}
	if !Equal(s, s) || !Equal(s, want) || !Equal(want, s) {
		t.Errorf("%s: it isn't equal to itself, or to its Share", what)
	}
	other := api.Scene{Nodes: append(slices.Clone(want.Nodes), group(want.Root)), Root: len(want.Nodes)}
	if Equal(s, other) || Equal(other, s) {
		t.Errorf("%s: it is equal to one with a node more", what)
	}
}

// falling are the places from the last one on.
func falling(count int) []int {
	l := make([]int, count)
	for at := range l {
		l[at] = count - 1 - at
	}
	return l
}

// chain is so many nodes, each but the first over the one before.
func chain(count int) api.Scene {
	s := api.Scene{Nodes: make([]api.Node, count), Root: count - 1}
	for at := 1; at < count; at++ {
		s.Nodes[at].Kids = []int{at - 1}
	}
	return s
}

// P11.1 to P11.3: ways down that are long.
func TestLongWays(t *testing.T) {
	const count = 1 << 16
	s := chain(count)
	checkGreat(t, "a chain", s, s, count)
	checkGreat(t, "a chain from the root on", moved(s, falling(count)), s, count)
	if Equal(s, chain(count-1)) {
		t.Errorf("a chain is equal to a shorter one")
	}
	leaf := chain(count)
	leaf.Nodes[0].Kind = 1
	if Equal(s, leaf) {
		t.Errorf("a chain is equal to one with another leaf")
	}
	twin := chain(count)
	for at := range count {
		twin.Nodes = append(twin.Nodes, api.Node{Kids: slices.Clone(twin.Nodes[at].Kids)})
		for i := range twin.Nodes[count+at].Kids {
			twin.Nodes[count+at].Kids[i] += count
		}
	}
	twin.Nodes = append(twin.Nodes, api.Node{Kids: []int{2*count - 1, count - 1}})
	twin.Root = 2 * count
	want := chain(count)
	want.Nodes = append(want.Nodes, api.Node{Kids: []int{count - 1, count - 1}})
	want.Root = count
	checkGreat(t, "two chains", twin, want, 2*count+1)
	s.Nodes[0].Kids = []int{count - 1}
	if got, e := Share(s); e != api.ErrCycle || len(got.Nodes) != 0 || Equal(s, s) || Size(s, 9) != 0 {
		t.Errorf("a ring: %d", e)
	}
}

// P11.1 to P11.3: more ways down than could be gone one by one.
func TestManyWays(t *testing.T) {
	s := doubled(5000)
	checkGreat(t, "a ladder", s, s, math.MaxInt)
	checkGreat(t, "a ladder from the root on", moved(s, falling(len(s.Nodes))), s, math.MaxInt)
	wide := doubled(5000)
	for at := range wide.Nodes[1:] {
		// Each step has a twin beside it, and leads to both below it.
		wide.Nodes[at+1].Kids[1] = at + len(s.Nodes)
	}
	for at := range 5000 {
		wide.Nodes = append(wide.Nodes, api.Node{Kids: slices.Clone(wide.Nodes[at].Kids)})
	}
	checkGreat(t, "a ladder with twins", wide, s, math.MaxInt)
	if Equal(s, doubled(4999)) || Equal(doubled(5001), s) {
		t.Errorf("a ladder is equal to another one")
	}
}

// P11.1 to P11.3: scenes that are wide.
func TestWideScenes(t *testing.T) {
	const count = 1 << 17
	s := api.Scene{Nodes: make([]api.Node, count+1), Root: count}
	for at := range count {
		s.Nodes[count].Kids = append(s.Nodes[count].Kids, at)
	}
	checkGreat(t, "a wide one", s, scene(1, nil, make([]int, count)), count+1)
	tree := apart(doubled(16))
	checkGreat(t, "a tree", tree, doubled(16), 1<<17-1)
	once := scene(1, nil, slices.Repeat([]int{0}, count))
	checkGreat(t, "one, often", once, once, count+1)
}
