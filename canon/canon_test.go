package canon

import (
	"math"
	"math/rand"
	"slices"
	"testing"

	"diorama/api"
	"diorama/graph"
)

// scene is nodes that have these kids, and nothing else.
func scene(root int, kids ...[]int) api.Scene {
	s := api.Scene{Root: root}
	for _, k := range kids {
		s.Nodes = append(s.Nodes, api.Node{Kids: k})
	}
	return s
}

// named is a scene whose nodes have fields that tell them apart, of which no kind is asked.
func named(s api.Scene) api.Scene {
	out := api.Scene{Root: s.Root}
	for at, n := range s.Nodes {
		out.Nodes = append(out.Nodes, api.Node{Kind: at*7 - 3, Ints: []int64{int64(at), math.MinInt64}, Texts: []string{string(rune('a' + at%26)), "\xff"}, Kids: n.Kids})
	}
	return out
}

func sameNode(a, b api.Node) bool {
	return a.Kind == b.Kind && slices.Equal(a.Ints, b.Ints) && slices.Equal(a.Texts, b.Texts) && slices.Equal(a.Kids, b.Kids)
}

func same(a, b api.Scene) bool {
	return a.Root == b.Root && slices.EqualFunc(a.Nodes, b.Nodes, sameNode)
}

// moved is a scene whose node at a place stands at another one, by to; the same scene, in another order.
func moved(s api.Scene, to []int) api.Scene {
	out := api.Scene{Nodes: make([]api.Node, len(s.Nodes)), Root: to[s.Root]}
	for at, n := range s.Nodes {
		var kids []int
		for _, kid := range n.Kids {
			kids = append(kids, to[kid])
		}
		out.Nodes[to[at]] = api.Node{Kind: n.Kind, Ints: n.Ints, Texts: n.Texts, Kids: kids}
	}
	return out
}

// plainNumbers is Numbers by the chapter's words; none, if graph.Check tells an error.
func plainNumbers(s api.Scene) []int {
	if e, _ := graph.Check(s); e != api.OK {
		return nil
	}
	places := make([]int, len(s.Nodes))
	met := make([]bool, len(s.Nodes))
	count := 0
	var down func(at int)
	down = func(at int) {
		for _, kid := range s.Nodes[at].Kids {
			if !met[kid] {
				down(kid)
			}
		}
		met[at], places[at] = true, count
		count++
	}
	down(s.Root)
	return places
}

// mark is what lies in the spare room behind the lists that marked makes.
const mark = 77

// roomy is a list with two marks in the spare room behind it.
func roomy[T any](l []T, m T) []T {
	return append(append(make([]T, 0, len(l)+2), l...), m, m)[:len(l)]
}

// markedRoom tells whether a list has still its marks behind it.
func markedRoom[T comparable](l []T, m T) bool {
	return slices.Equal(l[len(l):cap(l)][:2], []T{m, m})
}

// marked is a scene like s, with marks in the spare room behind all its lists.
func marked(s api.Scene) api.Scene {
	nodes := make([]api.Node, 0, len(s.Nodes)+1)
	for _, n := range s.Nodes {
		nodes = append(nodes, api.Node{Kind: n.Kind, Ints: roomy(n.Ints, mark), Texts: roomy(n.Texts, "mark"), Kids: roomy(n.Kids, mark)})
	}
	nodes[:cap(nodes)][len(nodes)].Kind = mark
	return api.Scene{Nodes: nodes, Root: s.Root}
}

// checkMarked wants a scene that marked made of s to be still as it was, its spare room too.
func checkMarked(t *testing.T, what string, x, s api.Scene) {
	t.Helper()
	ok := same(x, s) && sameNode(x.Nodes[:len(x.Nodes)+1][len(x.Nodes)], api.Node{Kind: mark})
	for _, n := range x.Nodes {
		ok = ok && markedRoom(n.Ints, mark) && markedRoom(n.Texts, "mark") && markedRoom(n.Kids, mark)
	}
	if !ok {
		t.Errorf("%s: what was handed in became %.300v, from %.300v", what, x, s)
	}
}

// spoil changes all that a scene's lists hold, their spare room too.
func spoil(s api.Scene) {
	for _, n := range s.Nodes {
		spoilNode(n)
	}
	clear(s.Nodes[:cap(s.Nodes)])
}

func spoilNode(n api.Node) {
	for i := range n.Ints[:cap(n.Ints)] {
		n.Ints[:cap(n.Ints)][i] = -99
	}
	for i := range n.Texts[:cap(n.Texts)] {
		n.Texts[:cap(n.Texts)][i] = "spoilt"
	}
	spoilPlaces(n.Kids)
}

func spoilPlaces(l []int) {
	for i := range l[:cap(l)] {
		l[:cap(l)][i] = -99
	}
}

// checkCanon wants Canon and Numbers to put the nodes of s by these places, and Is to tell whether that is s; all in new memory.
func checkCanon(t *testing.T, s api.Scene, places ...int) {
	t.Helper()
	x, want := marked(s), moved(s, places)
	c, e := Canon(x)
	kept, _ := Canon(x)
	if e != api.OK || !same(c, want) {
		t.Errorf("Canon(%.300v): %.300v, %d, not %.300v", s, c, e, want)
	}
	if c.Root != len(s.Nodes)-1 {
		t.Errorf("Canon(%.300v): the root is %d", s, c.Root)
	}
	l := Numbers(x)
	keptPlaces := Numbers(x)
	if !slices.Equal(l, places) {
		t.Errorf("Numbers(%.300v): %.300v, not %.300v", s, l, places)
	}
	for range 2 {
		if got := Is(x); got != same(s, want) {
			t.Errorf("Is(%.300v): %v", s, got)
		}
	}
	checkMarked(t, "the calls", x, s)
	checkApart(t, c, want)
	spoil(c)
	spoilPlaces(l)
	checkMarked(t, "the answers, changed", x, s)
	spoil(x)
	if !same(kept, want) || !slices.Equal(keptPlaces, places) {
		t.Errorf("of %.300v: the answers became %.300v, %.300v, as the scene or another answer was changed", s, kept, keptPlaces)
	}
}

// checkApart spoils one node's lists after the other: what the others have stays as it is wanted.
func checkApart(t *testing.T, c, want api.Scene) {
	t.Helper()
	for at, n := range c.Nodes {
		if at < len(want.Nodes) && !sameNode(n, want.Nodes[at]) {
			t.Errorf("node %d of %.300v: it became %v, as another one was changed", at, want, n)
		}
		spoilNode(n)
	}
}

// checkNone wants Canon to tell this error, and nothing else to be told.
func checkNone(t *testing.T, s api.Scene, e api.Errno) {
	t.Helper()
	x := marked(s)
	if c, got := Canon(x); got != e || len(c.Nodes) != 0 || c.Root != 0 {
		t.Errorf("Canon(%.300v): %.300v, %d, not error %d", s, c, got, e)
	}
	if l := Numbers(x); len(l) != 0 {
		t.Errorf("Numbers(%.300v): %.300v", s, l)
	}
	if Is(x) {
		t.Errorf("Is(%.300v)", s)
	}
	checkMarked(t, "the calls", x, s)
}

// checkAll holds all calls against the promises' words.
func checkAll(t *testing.T, s api.Scene) {
	t.Helper()
	if e, _ := graph.Check(s); e != api.OK {
		checkNone(t, s, e)
		return
	}
	checkCanon(t, s, plainNumbers(s)...)
	checkOnceMore(t, s)
}

// checkOnceMore wants the canonical scene to be canonical, and kids to stand ahead of who leads to them.
func checkOnceMore(t *testing.T, s api.Scene) {
	t.Helper()
	c, _ := Canon(s)
	again, e := Canon(c)
	if e != api.OK || !same(again, c) || !Is(c) {
		t.Errorf("the canonical scene of %.300v: %.300v, and of that %.300v, %d", s, c, again, e)
	}
	for i, place := range Numbers(c) {
		if place != i {
			t.Errorf("the canonical scene of %.300v: node %d has place %d", s, i, place)
		}
	}
	for at, n := range c.Nodes {
		for _, kid := range n.Kids {
			if kid < 0 || kid >= at {
				t.Errorf("the canonical scene of %.300v: node %d has kid %d", s, at, kid)
			}
		}
	}
}

// checkOrders wants the canonical scene to be the same, however the nodes are ordered.
func checkOrders(t *testing.T, s api.Scene, to []int) {
	t.Helper()
	c, e := Canon(s)
	m := moved(s, to)
	if got, gotE := Canon(m); gotE != e || !same(got, c) {
		t.Errorf("Canon(%.300v): %.300v, %d, but of it in another order, %.300v: %.300v, %d", s, c, e, m, got, gotE)
	}
	if Is(m) != (e == api.OK && same(m, c)) {
		t.Errorf("Is(%.300v): %v", m, Is(m))
	}
}

// orders are all orders of so many places.
func orders(count int) [][]int {
	if count == 0 {
		return [][]int{nil}
	}
	var l [][]int
	for _, o := range orders(count - 1) {
		for at := range count {
			l = append(l, slices.Insert(slices.Clone(o), at, count-1))
		}
	}
	return l
}

// P10.1, P10.2: the chapter's example; each order of its nodes has the same canonical scene.
func TestExample(t *testing.T) {
	s := named(scene(0, []int{2, 1}, nil, nil))
	checkCanon(t, s, 2, 1, 0)
	for _, to := range orders(3) {
		checkOrders(t, s, to)
	}
}

// P10.1: which place each node has then.
func TestPlaces(t *testing.T) {
	for _, x := range []struct {
		s      api.Scene
		places []int
	}{
		{scene(0, nil), []int{0}},
		{scene(0, []int{}), []int{0}},
		{scene(0, []int{1}, nil), []int{1, 0}},
		{scene(1, nil, []int{0}), []int{0, 1}},
		{scene(0, []int{1, 1}, nil), []int{1, 0}},
		{scene(0, []int{1, 2}, nil, nil), []int{2, 0, 1}},
		{scene(0, []int{2, 1, 2}, nil, nil), []int{2, 1, 0}},
		{scene(0, []int{1, 2, 1, 1, 2}, nil, nil), []int{2, 0, 1}},
		{scene(1, nil, []int{3, 0, 3, 2}, nil, []int{2}), []int{2, 3, 0, 1}},
		// A node that two lead to has its place by the first of them.
		{scene(0, []int{1, 2}, []int{3}, []int{3}, nil), []int{3, 1, 2, 0}},
		{scene(0, []int{1, 3}, []int{2}, []int{3}, nil), []int{3, 2, 1, 0}},
		{scene(0, []int{3, 1}, []int{2}, []int{3}, nil), []int{3, 2, 1, 0}},
		// It is met as a kid far up, too, but deep down it is met first.
		{scene(0, []int{1, 2, 4}, []int{3, 2}, nil, []int{4}, []int{2}), []int{4, 3, 0, 2, 1}},
		{scene(4, nil, []int{0}, []int{1, 0}, []int{0, 2}, []int{3, 0, 1, 2}), []int{0, 1, 2, 3, 4}},
		{scene(4, nil, nil, []int{0, 1}, nil, []int{2, 3}), []int{0, 1, 2, 3, 4}},
		{scene(4, nil, nil, nil, []int{1, 2}, []int{0, 3}), []int{0, 1, 2, 3, 4}},
	} {
		checkCanon(t, x.s, x.places...)
		checkCanon(t, named(x.s), x.places...)
		checkOnceMore(t, named(x.s))
	}
}

// P10.1: a node is told with all its fields, whatever they are, and only its kids' places are new.
func TestFieldsStay(t *testing.T) {
	l := []api.Node{
		{Kind: math.MaxInt, Ints: []int64{math.MaxInt64, math.MinInt64, 0}, Kids: []int{2, 1, 2}},
		{Kind: math.MinInt, Texts: []string{"", "\xff\xfe", "a\x00b"}},
		{Kind: -1, Ints: []int64{}, Texts: []string{"", ""}, Kids: []int{3}},
		{Kind: api.KBall, Ints: []int64{5}, Texts: []string{"wood"}},
	}
	c, e := Canon(api.Scene{Nodes: l})
	want := api.Scene{Root: 3, Nodes: []api.Node{l[3], l[2], l[1], l[0]}}
	want.Nodes[1].Kids, want.Nodes[3].Kids = []int{0}, []int{1, 2, 1}
	if e != api.OK || !same(c, want) {
		t.Errorf("%v, %d, not %v", c, e, want)
	}
	checkAll(t, api.Scene{Nodes: l})
}

// P10.1, P10.2: wrong scenes have graph.Check's error, and no places.
func TestWrongScenes(t *testing.T) {
	for _, x := range []struct {
		e api.Errno
		s api.Scene
	}{
		{api.ErrRef, api.Scene{}},
		{api.ErrRef, api.Scene{Nodes: []api.Node{}}},
		{api.ErrRef, api.Scene{Root: -1}},
		{api.ErrRef, scene(-1, nil)},
		{api.ErrRef, scene(1, nil)},
		{api.ErrRef, scene(math.MinInt, nil, []int{0})},
		{api.ErrRef, scene(math.MaxInt, nil, []int{0})},
		{api.ErrRef, scene(0, []int{1})},
		{api.ErrRef, scene(1, nil, []int{0, -1})},
		{api.ErrRef, scene(1, nil, []int{0, 2})},
		{api.ErrRef, scene(1, nil, []int{math.MaxInt, 0})},
		{api.ErrRef, scene(1, nil, []int{0, math.MinInt})},
		{api.ErrRef, scene(0, []int{0}, []int{2})},
		{api.ErrRef, scene(0, nil, []int{-1})},
		{api.ErrCycle, scene(0, []int{0})},
		{api.ErrCycle, scene(0, []int{1}, []int{0})},
		{api.ErrCycle, scene(2, nil, []int{0, 2}, []int{1})},
		{api.ErrCycle, scene(0, nil, []int{1})},
		{api.ErrCycle, scene(1, []int{0}, nil, nil)},
		{api.ErrLoose, scene(0, nil, nil)},
		{api.ErrLoose, scene(1, nil, nil)},
		{api.ErrLoose, scene(0, nil, []int{0})},
		{api.ErrLoose, scene(2, nil, []int{0}, []int{0})},
	} {
		checkNone(t, x.s, x.e)
		checkNone(t, named(x.s), x.e)
	}
}

// P10.2: a canonical scene isn't one any more, if two of its places are exchanged, or its root or a kid is another one.
func TestIs(t *testing.T) {
	c := named(scene(4, nil, nil, []int{0, 1, 0}, []int{1, 2}, []int{2, 3, 0}))
	if !Is(c) {
		t.Fatalf("Is(%v): false", c)
	}
	for _, to := range orders(5) {
		if got := Is(moved(c, to)); got != slices.IsSorted(to) {
			t.Errorf("Is, moved by %v: %v", to, got)
		}
	}
	for root := -1; root <= 5; root++ {
		if got := Is(api.Scene{Nodes: c.Nodes, Root: root}); got != (root == 4) {
			t.Errorf("Is, with root %d: %v", root, got)
		}
	}
	swapped := named(scene(4, nil, nil, []int{1, 0, 0}, []int{1, 2}, []int{2, 3, 0}))
	if Is(swapped) {
		t.Errorf("Is(%v)", swapped)
	}
}

// P10.2: which kinds and fields there are plays no part, if the order is right; nor does it, if the order is wrong, and the nodes are alike.
func TestIsOfAlikeNodes(t *testing.T) {
	for _, n := range []api.Node{{}, {Kind: -1}, {Kind: api.KBox, Ints: []int64{1, 2, 3}, Texts: []string{"\xff"}}} {
		right := api.Scene{Nodes: []api.Node{n, n, {Kind: api.KGroup, Kids: []int{0, 1}}}, Root: 2}
		wrong := api.Scene{Nodes: []api.Node{n, n, {Kind: api.KGroup, Kids: []int{1, 0}}}, Root: 2}
		if !Is(right) || Is(wrong) {
			t.Errorf("Is of two like %v: %v, %v", n, Is(right), Is(wrong))
		}
		checkCanon(t, right, 0, 1, 2)
		checkCanon(t, wrong, 1, 0, 2)
		if a, _ := Canon(right); !same(a, right) {
			t.Errorf("Canon(%v): %v", right, a)
		}
		if a, _ := Canon(wrong); !same(a, right) {
			t.Errorf("Canon(%v): %v", wrong, a)
		}
	}
}

// P10.3: nodes that are shared stay so, nodes that are alike stay apart.
func TestSharedAndAlike(t *testing.T) {
	box := api.Node{Kind: api.KBox, Ints: []int64{1, 2, 3}, Texts: []string{"wood"}}
	group := func(kids ...int) api.Node { return api.Node{Kind: api.KGroup, Texts: []string{""}, Kids: kids} }
	shared := api.Scene{Nodes: []api.Node{group(1, 1), box}}
	apart := api.Scene{Nodes: []api.Node{group(1, 2), box, box}}
	checkCanon(t, shared, 1, 0)
	checkCanon(t, apart, 2, 0, 1)
	a, _ := Canon(shared)
	b, _ := Canon(apart)
	if !same(a, api.Scene{Nodes: []api.Node{box, group(0, 0)}, Root: 1}) || !same(b, api.Scene{Nodes: []api.Node{box, box, group(0, 1)}, Root: 2}) {
		t.Errorf("%v, %v", a, b)
	}
}

// P10.1: nodes whose lists are one in memory have lists of their own then.
func TestListsInOneRoom(t *testing.T) {
	kids, ints, texts := []int{3, 2, 3}, []int64{1, 2, 3}, []string{"a", "b", "c"}
	s := api.Scene{Nodes: []api.Node{
		{Kids: []int{1, 4}},
		{Ints: ints, Texts: texts, Kids: kids},
		{Ints: ints[1:], Texts: texts[:2]},
		{Ints: ints[:2], Texts: texts[1:], Kids: kids[1:2]},
		{Ints: ints, Texts: texts, Kids: kids[:2]},
	}}
	want := moved(s, []int{4, 2, 0, 1, 3})
	c, e := Canon(s)
	if e != api.OK || !same(c, want) {
		t.Errorf("%v, %d, not %v", c, e, want)
	}
	for at, n := range c.Nodes {
		if !sameNode(n, want.Nodes[at]) {
			t.Errorf("node %d became %v, as another one was changed", at, n)
		}
		n.Ints = append(n.Ints, 9, 9)
		n.Texts = append(n.Texts, "9", "9")
		n.Kids = append(n.Kids, 9, 9)
		spoilNode(c.Nodes[at])
	}
	if !slices.Equal(kids, []int{3, 2, 3}) || !slices.Equal(ints, []int64{1, 2, 3}) || !slices.Equal(texts, []string{"a", "b", "c"}) {
		t.Errorf("the lists became %v, %v, %v", kids, ints, texts)
	}
}

// kidLists are all lists of at most two places from least on.
func kidLists(least, most int) [][]int {
	l := [][]int{nil}
	for a := least; a <= most; a++ {
		l = append(l, []int{a})
		for b := least; b <= most; b++ {
			l = append(l, []int{a, b})
		}
	}
	return l
}

// P10.1 to P10.3: all scenes of at most two nodes, with at most two kids each, wrong ones too.
func TestAllSmallScenes(t *testing.T) {
	for root := -1; root <= 2; root++ {
		checkAll(t, scene(root))
		for _, a := range kidLists(-1, 1) {
			checkAll(t, scene(root, a))
		}
		for _, a := range kidLists(-1, 2) {
			for _, b := range kidLists(-1, 2) {
				checkAll(t, named(scene(root, a, b)))
			}
		}
	}
}

// P10.1 to P10.3: all ways that four nodes may lead to each other, each with its kids rising, and falling.
func TestAllLinksOfFourNodes(t *testing.T) {
	right := 0
	for bits := range 1 << 17 {
		s := api.Scene{Nodes: make([]api.Node, 4), Root: bits % 4}
		for i := range 16 {
			if bits>>(i+1)&1 == 1 {
				s.Nodes[i/4].Kids = append(s.Nodes[i/4].Kids, i%4)
			}
		}
		if bits&1 == 1 {
			for _, n := range s.Nodes {
				slices.Reverse(n.Kids)
			}
		}
		if got, want := Numbers(s), plainNumbers(s); !slices.Equal(got, want) {
			t.Fatalf("Numbers(%v): %v, not %v", s, got, want)
		}
		if e, _ := graph.Check(s); e == api.OK {
			right++
			checkAll(t, s)
		}
	}
	if right < 100 {
		t.Errorf("only %d right ones", right)
	}
}

// rightOnes are all right scenes of three nodes, of two kinds, with at most two kids each.
func rightOnes() []api.Scene {
	var l []api.Scene
	lists := kidLists(0, 2)
	for root := range 3 {
		for i := range len(lists) * len(lists) * len(lists) {
			s := scene(root, lists[i%len(lists)], lists[i/len(lists)%len(lists)], lists[i/len(lists)/len(lists)])
			if e, _ := graph.Check(s); e != api.OK {
				continue
			}
			for kinds := range 8 {
				x := scene(root, s.Nodes[0].Kids, s.Nodes[1].Kids, s.Nodes[2].Kids)
				for at := range x.Nodes {
					x.Nodes[at].Kind = kinds >> at & 1
				}
				l = append(l, x)
			}
		}
	}
	return l
}

// P10.3: two scenes have the same canonical one just if there is a way to exchange places that makes the one of the other one.
func TestSameJustIfExchanged(t *testing.T) {
	l := rightOnes()
	// Of each root 10 lead to both others by one step, 8 to one of them alone; and there are 8 ways to choose kinds.
	if len(l) != 3*(10+8)*8 {
		t.Errorf("%d scenes", len(l))
	}
	canons := make([]api.Scene, len(l))
	for i, s := range l {
		canons[i], _ = Canon(s)
	}
	ways := orders(3)
	for i, a := range l {
		var reached []api.Scene
		for _, to := range ways {
			reached = append(reached, moved(a, to))
		}
		for j, b := range l {
			want := slices.ContainsFunc(reached, func(m api.Scene) bool { return same(m, b) })
			if same(canons[i], canons[j]) != want {
				t.Fatalf("%v and %v: the same canonical one: %v", a, b, !want)
			}
		}
	}
}

// source makes scenes that are often right.
type source struct{ next func(n int) int }

// places are the places from 0 on, mixed.
func (r source) places(count int) []int {
	l := make([]int, count)
	for i := range l {
		j := r.next(i + 1)
		l[i], l[j] = l[j], i
	}
	return l
}

// node has a few fields, so that nodes that are alike are met often.
func (r source) node() api.Node {
	n := api.Node{Kind: r.next(2)}
	for range r.next(3) {
		n.Ints = append(n.Ints, int64(r.next(2)))
	}
	for range r.next(2) {
		n.Texts = append(n.Texts, []string{"", "a", "\xff"}[r.next(3)])
	}
	return n
}

// scene has mostly kids behind their node, in an order that is then mixed.
func (r source) scene() api.Scene {
	count := 1 + r.next(12)
	s := api.Scene{}
	for range count {
		s.Nodes = append(s.Nodes, r.node())
	}
	for at := range count - 1 {
		over := r.next(at + 1)
		s.Nodes[over].Kids = append(s.Nodes[over].Kids, at+1)
		for range r.next(4) {
			s.Nodes[at].Kids = append(s.Nodes[at].Kids, at+1+r.next(count-at-1))
		}
	}
	for _, n := range s.Nodes {
		if r.next(2) == 0 {
			slices.Reverse(n.Kids)
		}
	}
	s = moved(s, r.places(count))
	at := r.next(count)
	switch r.next(16) {
	case 1:
		s.Nodes[at].Kids = append(s.Nodes[at].Kids, r.next(count+2)-1)
	case 2:
		s.Root = r.next(count+2) - 1
	case 3:
		s.Nodes = append(s.Nodes, r.node())
	}
	return s
}

// checkSource holds all calls against the promises' words, on what a source makes.
func checkSource(t *testing.T, r source) api.Errno {
	t.Helper()
	s := r.scene()
	checkAll(t, s)
	e, _ := graph.Check(s)
	if e != api.ErrRef {
		checkOrders(t, s, r.places(len(s.Nodes)))
	}
	return e
}

// P10.1 to P10.3
func TestManyScenes(t *testing.T) {
	r := source{rand.New(rand.NewSource(1)).Intn}
	met := map[api.Errno]int{}
	for range 20000 {
		met[checkSource(t, r)]++
		if t.Failed() {
			return
		}
	}
	for _, e := range []api.Errno{api.OK, api.ErrRef, api.ErrCycle, api.ErrLoose} {
		if met[e] < 200 {
			t.Errorf("only %d scenes of %d", met[e], e)
		}
	}
}

// P10.1 to P10.3: whatever is handed in.
func FuzzAll(f *testing.F) {
	f.Add([]byte{})
	f.Add([]byte("\x03\x00\x00\x01\x00\x02\x00\x01\x01\x00\x00\x01\x02\x03"))
	f.Add([]byte("\x07\x01\x00\x02\x01\x00\x02\x02\x01\x00\x01\x03\x01\x01\x00\x02\x00\x01\x07\x02\x01\x05\x00\x03"))
	f.Add([]byte("\x05\x01\x02\x00\x00\x00\x00\x01\x01\x01\x00\x00\x01\x02\x00\x04\x02\x01\x03\x02\x02\x01\x01\x03"))
	f.Fuzz(func(t *testing.T, b []byte) {
		at := 0
		checkSource(t, source{func(n int) int {
			at++
			if at > len(b) {
				return 0
			}
			return int(b[at-1]) % n
		}})
	})
}

// checkGreat wants a great scene, which isn't told whole, to be put by these places.
func checkGreat(t *testing.T, what string, s api.Scene, places []int) {
	t.Helper()
	if got := Numbers(s); !slices.Equal(got, places) {
		t.Errorf("%s: other places", what)
	}
	c, e := Canon(s)
	want := moved(s, places)
	if e != api.OK || !same(c, want) || !Is(c) || Is(s) != same(s, want) {
		t.Errorf("%s: another canonical scene, or error %d", what, e)
	}
}

// falling are the places from the last one on.
func falling(count int) []int {
	l := make([]int, count)
	for at := range l {
		l[at] = count - 1 - at
	}
	return l
}

// rising are the places from the first one on.
func rising(count int) []int {
	l := falling(count)
	slices.Reverse(l)
	return l
}

// P10.1, P10.2: ways down that are long.
func TestLongWays(t *testing.T) {
	const count = 1 << 18
	s := api.Scene{Nodes: make([]api.Node, count)}
	for at := range count - 1 {
		s.Nodes[at] = api.Node{Kind: at, Kids: []int{at + 1}}
	}
	checkGreat(t, "a chain", s, falling(count))
	checkGreat(t, "a chain from the last on", moved(s, falling(count)), rising(count))
	s.Nodes[count-1].Kids = []int{count - 1}
	if c, e := Canon(s); e != api.ErrCycle || len(c.Nodes) != 0 || Is(s) || Numbers(s) != nil {
		t.Errorf("a chain to a cycle: %d", e)
	}
}

// P10.1, P10.2: more ways down than could be gone one by one.
func TestManyWays(t *testing.T) {
	const count = 1 << 12
	s := api.Scene{Nodes: make([]api.Node, count)}
	for at := range count - 1 {
		s.Nodes[at].Kids = []int{min(at+2, count-1), at + 1, min(at+3, count-1), at + 1}
	}
	checkGreat(t, "a ladder", s, plainNumbers(s))
	wide := api.Scene{Nodes: make([]api.Node, count)}
	for i := range 1 << 18 {
		wide.Nodes[0].Kids = append(wide.Nodes[0].Kids, count-1-i%(count-1))
	}
	checkGreat(t, "a wide one", wide, falling(count))
}
