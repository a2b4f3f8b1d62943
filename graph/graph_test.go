package graph

import (
	"math"
	"math/rand"
	"slices"
	"testing"

	"diorama/api"
)

// scene is nodes that have these kids, and nothing else.
func scene(root int, kids ...[]int) api.Scene {
	s := api.Scene{Root: root}
	for _, k := range kids {
		s.Nodes = append(s.Nodes, api.Node{Kids: k})
	}
	return s
}

// chain is so many nodes, each the only kid of the one ahead of it.
func chain(count int) api.Scene {
	s := api.Scene{Nodes: make([]api.Node, count)}
	for at := range count - 1 {
		s.Nodes[at].Kids = []int{at + 1}
	}
	return s
}

// mark is what lies in the spare room behind the lists that marked makes.
const mark = 77

// marked is a scene with spare room behind its lists that is marked, and with kinds and fields that no kind has.
func marked(s api.Scene) api.Scene {
	nodes := make([]api.Node, len(s.Nodes), len(s.Nodes)+2)
	for at, n := range s.Nodes {
		kids := append(append(make([]int, 0, len(n.Kids)+2), n.Kids...), mark, mark)
		nodes[at] = api.Node{Kind: at*7 - 3, Ints: []int64{int64(at), -1}, Texts: []string{"\xff"}, Kids: kids[:len(n.Kids)]}
	}
	spare := nodes[len(nodes):cap(nodes)]
	spare[0].Kind, spare[1].Kind = mark, mark
	return api.Scene{Nodes: nodes, Root: s.Root}
}

// checkMarked wants a scene that marked made of s to be still as it was, its spare room too.
func checkMarked(t *testing.T, what string, x, s api.Scene) {
	t.Helper()
	same := x.Root == s.Root && len(x.Nodes) == len(s.Nodes)
	for at, n := range x.Nodes {
		same = same && n.Kind == at*7-3 && slices.Equal(n.Ints, []int64{int64(at), -1}) && slices.Equal(n.Texts, []string{"\xff"})
		same = same && slices.Equal(n.Kids, s.Nodes[at].Kids) && slices.Equal(n.Kids[len(n.Kids):cap(n.Kids)][:2], []int{mark, mark})
	}
	for _, n := range x.Nodes[len(x.Nodes):cap(x.Nodes)] {
		same = same && n.Kind == mark && n.Ints == nil && n.Texts == nil && n.Kids == nil
	}
	if !same {
		t.Errorf("%s: what was handed in became %v, from %v", what, x, s)
	}
}

// checkCheck wants Check to tell e, at a place, twice, whatever kinds and fields there are.
func checkCheck(t *testing.T, s api.Scene, e api.Errno, at int) {
	t.Helper()
	x := marked(s)
	for range 2 {
		if gotE, gotAt := Check(x); gotE != e || gotAt != at {
			t.Errorf("Check(%.300v): %d at %d, not %d at %d", s, gotE, gotAt, e, at)
		}
		checkMarked(t, "Check", x, s)
	}
	if gotE, gotAt := Check(s); gotE != e || gotAt != at {
		t.Errorf("Check(%.300v): %d at %d, not %d at %d", s, gotE, gotAt, e, at)
	}
}

// checkBelow wants Below to tell these places, in new memory.
func checkBelow(t *testing.T, s api.Scene, at int, want ...int) {
	t.Helper()
	x := marked(s)
	kept := Below(x, at)
	l := Below(x, at)
	if !slices.Equal(l, want) {
		t.Errorf("Below(%.300v, %d): %.300v, not %.300v", s, at, l, want)
	}
	for i := range l[:cap(l)] {
		l[:cap(l)][i] = -99
	}
	checkMarked(t, "Below", x, s)
	for _, n := range x.Nodes {
		for i := range n.Kids[:cap(n.Kids)] {
			n.Kids[:cap(n.Kids)][i] = -99
		}
	}
	if !slices.Equal(kept, want) {
		t.Errorf("Below(%.300v, %d): it became %.300v, as the scene or another answer was changed", s, at, kept)
	}
}

// checkCounts wants Depth and Edges to tell these.
func checkCounts(t *testing.T, s api.Scene, depth, edges int) {
	t.Helper()
	x := marked(s)
	if got := Depth(x); got != depth {
		t.Errorf("Depth(%.300v): %d, not %d", s, got, depth)
	}
	checkMarked(t, "Depth", x, s)
	if got := Edges(x); got != edges {
		t.Errorf("Edges(%.300v): %d, not %d", s, got, edges)
	}
	checkMarked(t, "Edges", x, s)
}

// P9.1, P9.2: the chapter's examples.
func TestExamples(t *testing.T) {
	s := scene(0, []int{1, 1}, nil)
	checkCheck(t, s, api.OK, 0)
	checkCounts(t, s, 2, 2)
	s.Root = 1
	checkCheck(t, s, api.ErrLoose, 0)
	checkCounts(t, s, 0, 2)
}

// P9.1
func TestCheckOfOrdinaryScenes(t *testing.T) {
	for _, s := range []api.Scene{
		scene(0, nil),
		scene(0, []int{}),
		scene(0, []int{1}, nil),
		scene(1, nil, []int{0}),
		scene(0, []int{2, 1}, nil, nil),
		scene(0, []int{1, 2}, []int{3}, []int{3}, nil),
		scene(3, nil, []int{0}, []int{0, 1, 0}, []int{2, 1, 0}),
		scene(2, []int{1, 1}, nil, []int{0, 0, 0}),
	} {
		checkCheck(t, s, api.OK, 0)
	}
}

// P9.1: the root is looked at ahead of all else.
func TestCheckOfWrongRoots(t *testing.T) {
	for _, root := range []int{-1, 3, 4, math.MinInt, math.MaxInt, 1 << 32, -1 << 32} {
		checkCheck(t, scene(root, []int{1, 2}, nil, nil), api.ErrRef, -1)
		checkCheck(t, scene(root, []int{9}, []int{-1}, nil), api.ErrRef, -1)
		checkCheck(t, scene(root, []int{0}, []int{1}, nil), api.ErrRef, -1)
		checkCheck(t, scene(root, nil, nil, nil), api.ErrRef, -1)
	}
	for _, root := range []int{-1, 0, 1, math.MinInt, math.MaxInt} {
		checkCheck(t, api.Scene{Root: root}, api.ErrRef, -1)
		checkCheck(t, api.Scene{Nodes: []api.Node{}, Root: root}, api.ErrRef, -1)
	}
}

// P9.1: the first node with a wrong kid, whichever of its kids that is, ahead of cycles and of loose nodes.
func TestCheckOfWrongKids(t *testing.T) {
	for _, kid := range []int{-1, 3, 4, math.MinInt, math.MaxInt, 1 << 32, -1 << 32} {
		checkCheck(t, scene(0, []int{kid}, nil, nil), api.ErrRef, 0)
		checkCheck(t, scene(0, []int{1, 2, kid}, nil, nil), api.ErrRef, 0)
		checkCheck(t, scene(0, []int{1, kid, 2}, nil, nil), api.ErrRef, 0)
		checkCheck(t, scene(0, []int{1, 2}, nil, []int{kid}), api.ErrRef, 2)
		checkCheck(t, scene(2, []int{1, kid}, []int{kid}, []int{0}), api.ErrRef, 0)
		checkCheck(t, scene(2, []int{1}, []int{kid}, []int{kid, 0}), api.ErrRef, 1)
		checkCheck(t, scene(0, []int{0}, []int{0}, []int{kid}), api.ErrRef, 2)
		checkCheck(t, scene(0, nil, nil, []int{kid}), api.ErrRef, 2)
	}
}

// P9.1: the first node that leads to itself, not one that only leads to such a one, nor one that such a one leads to.
func TestCheckOfCycles(t *testing.T) {
	for _, x := range []struct {
		s  api.Scene
		at int
	}{
		{scene(0, []int{0}), 0},
		{scene(0, []int{1, 1, 0}, nil), 0},
		{scene(0, []int{1}, []int{1}), 1},
		{scene(1, nil, []int{0, 1}), 1},
		{scene(0, []int{1}, []int{0}), 0},
		{scene(1, []int{1}, []int{0}), 0},
		{scene(0, []int{1}, []int{2}, []int{1}), 1},
		{scene(0, []int{3}, nil, []int{3, 1}, []int{2}), 2},
		{scene(3, nil, []int{0, 2}, []int{1}, []int{1}), 1},
		{scene(4, []int{1}, []int{2}, []int{3}, []int{3}, []int{4, 0}), 3},
		{scene(4, []int{1}, []int{2}, []int{3}, nil, []int{4, 0}), 4},
		{scene(5, []int{1}, []int{3}, []int{3}, []int{2}, []int{5, 0}, []int{4}), 2},
		{scene(2, []int{1}, []int{2}, []int{3}, []int{4}, []int{0}), 0},
		{scene(0, []int{1, 2}, []int{3}, []int{3}, []int{1}), 1},
		{scene(0, []int{1, 2}, nil, []int{1, 3}, []int{2, 1}), 2},
	} {
		checkCheck(t, x.s, api.ErrCycle, x.at)
		checkCounts(t, x.s, 0, plainEdges(x.s))
	}
}

// P9.1: cycles count wherever they are, ahead of loose nodes, though the root leads to none of them.
func TestCheckOfLooseCycles(t *testing.T) {
	checkCheck(t, scene(0, nil, []int{1}), api.ErrCycle, 1)
	checkCheck(t, scene(0, nil, nil, []int{2}), api.ErrCycle, 2)
	checkCheck(t, scene(0, nil, nil, []int{3}, []int{4}, []int{3}), api.ErrCycle, 3)
	checkCheck(t, scene(0, nil, []int{2, 0}, []int{1, 0}), api.ErrCycle, 1)
	checkCheck(t, scene(1, []int{0, 1}, nil, nil), api.ErrCycle, 0)
}

// P9.1: the first of the nodes that aren't the root, and that the root doesn't lead to.
func TestCheckOfLooseNodes(t *testing.T) {
	checkCheck(t, scene(0, nil, nil), api.ErrLoose, 1)
	checkCheck(t, scene(1, nil, nil), api.ErrLoose, 0)
	checkCheck(t, scene(0, []int{1}, nil, nil, nil), api.ErrLoose, 2)
	checkCheck(t, scene(0, nil, []int{0}), api.ErrLoose, 1)
	checkCheck(t, scene(2, nil, []int{0}, []int{0}, []int{2}), api.ErrLoose, 1)
	checkCheck(t, scene(2, []int{2}, []int{2}, []int{3}, nil), api.ErrLoose, 0)
	checkCheck(t, scene(3, nil, []int{0}, []int{1}, []int{1}, nil), api.ErrLoose, 2)
}

// P9.2
func TestBelow(t *testing.T) {
	s := scene(0, []int{2}, nil, nil)
	checkBelow(t, s, 0, 0, 2)
	checkBelow(t, s, 1, 1)
	checkBelow(t, s, 2, 2)
	s = scene(4, nil, []int{0}, []int{3, 0}, nil, []int{2, 1, 2})
	checkBelow(t, s, 4, 0, 1, 2, 3, 4)
	checkBelow(t, s, 2, 0, 2, 3)
	checkBelow(t, s, 1, 0, 1)
	checkBelow(t, s, 0, 0)
	checkBelow(t, scene(0, []int{12, 1, 5}, nil, nil, nil, nil, []int{3, 11}, nil, nil, nil, nil, nil, nil, []int{11, 2}), 0, 0, 1, 2, 3, 5, 11, 12)
}

// P9.2: with cycles and loose nodes Below tells the same as without: each place once.
func TestBelowOfCyclesAndLooseNodes(t *testing.T) {
	checkBelow(t, scene(0, []int{0}), 0, 0)
	s := scene(5, []int{1}, []int{2}, []int{0, 3}, nil, []int{4, 3}, nil)
	for at := range 3 {
		checkBelow(t, s, at, 0, 1, 2, 3)
	}
	checkBelow(t, s, 3, 3)
	checkBelow(t, s, 4, 3, 4)
	checkBelow(t, s, 5, 5)
}

// P9.2: none, if at is no place, or Check tells ErrRef, though it be for a node that at doesn't lead to, or for the root.
func TestBelowOfNone(t *testing.T) {
	for _, at := range []int{-1, 2, 3, math.MinInt, math.MaxInt, 1 << 32} {
		checkBelow(t, scene(0, []int{1}, nil), at)
		checkBelow(t, scene(0, []int{1}, []int{0}), at)
		checkBelow(t, scene(at, []int{1}, nil), 0)
		checkBelow(t, scene(at, []int{1}, nil), at)
		checkBelow(t, scene(0, nil, []int{at}), 0)
		checkBelow(t, scene(0, nil, []int{0, at}), 1)
		checkBelow(t, api.Scene{}, at)
	}
	checkBelow(t, api.Scene{}, 0)
}

// P9.2: the longest way down, not the first one, nor the shortest.
func TestDepth(t *testing.T) {
	checkCounts(t, scene(0, nil), 1, 0)
	checkCounts(t, scene(0, []int{1}, nil), 2, 1)
	checkCounts(t, scene(0, []int{2, 1}, nil, []int{1}), 3, 3)
	checkCounts(t, scene(0, []int{1, 2}, nil, []int{1}), 3, 3)
	checkCounts(t, scene(0, []int{1, 2}, []int{3}, []int{4}, nil, []int{3, 1}), 5, 6)
	checkCounts(t, scene(4, nil, []int{0}, []int{1, 0}, []int{0, 2, 1}, []int{3, 3, 0}), 5, 9)
	checkCounts(t, scene(0, []int{1, 2, 3, 4}, nil, nil, nil, nil), 2, 4)
}

// P9.2: Depth is 0 of what Check tells an error of; Edges counts the kids of any scene.
func TestCountsOfWrongScenes(t *testing.T) {
	checkCounts(t, api.Scene{}, 0, 0)
	checkCounts(t, scene(-1, []int{1, 1}, nil), 0, 2)
	checkCounts(t, scene(2, []int{1, 1}, nil), 0, 2)
	checkCounts(t, scene(0, []int{1, 9, -1, math.MaxInt}, []int{math.MinInt}), 0, 5)
	checkCounts(t, scene(0, []int{1}, []int{0, 0}), 0, 3)
	checkCounts(t, scene(0, nil, []int{0, 0}), 0, 2)
	checkCounts(t, scene(0, []int{1}, nil, []int{0, 1}), 0, 3)
}

// P9.3: if Check tells OK, all nodes are Below the root, and below each node are its kids' and itself alone.
func checkConsequences(t *testing.T, s api.Scene) {
	t.Helper()
	if e, _ := Check(s); e != api.OK {
		return
	}
	if l := Below(s, s.Root); len(l) != len(s.Nodes) || l[0] != 0 || l[len(l)-1] != len(s.Nodes)-1 {
		t.Errorf("Below the root of %v: %v", s, l)
	}
	for at, n := range s.Nodes {
		want := []int{at}
		for _, kid := range n.Kids {
			want = append(want, Below(s, kid)...)
		}
		slices.Sort(want)
		if l := Below(s, at); !slices.Equal(l, slices.Compact(want)) {
			t.Errorf("Below(%v, %d): %v, but its kids' and itself are %v", s, at, l, want)
		}
	}
}

// moved is a scene whose node at each place stands at the place that to tells of it.
func moved(s api.Scene, to []int) api.Scene {
	x := api.Scene{Nodes: make([]api.Node, len(s.Nodes)), Root: to[s.Root]}
	for at, n := range s.Nodes {
		for _, kid := range n.Kids {
			x.Nodes[to[at]].Kids = append(x.Nodes[to[at]].Kids, to[kid])
		}
	}
	return x
}

// P9.3: the order of the nodes plays no part.
func checkOrders(t *testing.T, s api.Scene, to []int) {
	t.Helper()
	e, _ := Check(s)
	if e == api.ErrRef {
		return
	}
	x := moved(s, to)
	if got, _ := Check(x); got != e {
		t.Errorf("Check(%v): %d, but of %v %d", x, got, s, e)
	}
	if Depth(x) != Depth(s) || Edges(x) != Edges(s) {
		t.Errorf("Depth, Edges(%v): %d, %d, but of %v %d, %d", x, Depth(x), Edges(x), s, Depth(s), Edges(s))
	}
	for at := range s.Nodes {
		var want []int
		for _, place := range Below(s, at) {
			want = append(want, to[place])
		}
		slices.Sort(want)
		if got := Below(x, to[at]); !slices.Equal(got, want) {
			t.Errorf("Below(%v, %d): %v, not %v", x, to[at], got, want)
		}
	}
}

// leads tells of each two places whether the one leads to the other one, by the chapter's words: by one step or more.
func leads(s api.Scene) [][]bool {
	m := make([][]bool, len(s.Nodes))
	for at, n := range s.Nodes {
		m[at] = make([]bool, len(s.Nodes))
		for _, kid := range n.Kids {
			m[at][kid] = true
		}
	}
	for over := range m {
		for from := range m {
			for to := range m {
				m[from][to] = m[from][to] || m[from][over] && m[over][to]
			}
		}
	}
	return m
}

// plainCheck is Check by the words of P9.1.
func plainCheck(s api.Scene) (api.Errno, int) {
	if s.Root < 0 || s.Root >= len(s.Nodes) {
		return api.ErrRef, -1
	}
	for at, n := range s.Nodes {
		if slices.ContainsFunc(n.Kids, func(kid int) bool { return kid < 0 || kid >= len(s.Nodes) }) {
			return api.ErrRef, at
		}
	}
	m := leads(s)
	for at := range m {
		if m[at][at] {
			return api.ErrCycle, at
		}
	}
	for at := range m {
		if at != s.Root && !m[s.Root][at] {
			return api.ErrLoose, at
		}
	}
	return api.OK, 0
}

// plainBelow is Below by the words of P9.2.
func plainBelow(s api.Scene, at int) []int {
	if e, _ := plainCheck(s); e == api.ErrRef || at < 0 || at >= len(s.Nodes) {
		return nil
	}
	m := leads(s)
	var l []int
	for place := range m {
		if place == at || m[at][place] {
			l = append(l, place)
		}
	}
	return l
}

// plainDepth is Depth by the words of P9.2: each way down is gone.
func plainDepth(s api.Scene) int {
	if e, _ := plainCheck(s); e != api.OK {
		return 0
	}
	var longest func(at int) int
	longest = func(at int) int {
		most := 0
		for _, kid := range s.Nodes[at].Kids {
			most = max(most, longest(kid))
		}
		return most + 1
	}
	return longest(s.Root)
}

// plainEdges is Edges by the words of P9.2.
func plainEdges(s api.Scene) int {
	count := 0
	for _, n := range s.Nodes {
		for range n.Kids {
			count++
		}
	}
	return count
}

// checkAll holds all calls against the promises' words.
func checkAll(t *testing.T, s api.Scene) {
	t.Helper()
	e, at := plainCheck(s)
	checkCheck(t, s, e, at)
	checkCounts(t, s, plainDepth(s), plainEdges(s))
	for at := -1; at <= len(s.Nodes); at++ {
		checkBelow(t, s, at, plainBelow(s, at)...)
	}
	checkConsequences(t, s)
}

// kidLists are all lists of at most two places from -1 to count.
func kidLists(count int) [][]int {
	l := [][]int{nil}
	for a := -1; a <= count; a++ {
		l = append(l, []int{a})
		for b := -1; b <= count; b++ {
			l = append(l, []int{a, b})
		}
	}
	return l
}

// P9.1 to P9.3: all scenes of at most two nodes, with at most two kids each.
func TestAllSmallScenes(t *testing.T) {
	for root := -1; root <= 2; root++ {
		checkAll(t, scene(root))
		for _, a := range kidLists(1) {
			checkAll(t, scene(root, a))
		}
		for _, a := range kidLists(2) {
			for _, b := range kidLists(2) {
				checkAll(t, scene(root, a, b))
			}
		}
	}
}

// P9.1 to P9.3: all ways that four nodes may lead to each other, each to itself among them.
func TestAllLinksOfFourNodes(t *testing.T) {
	for bits := range 1 << 16 {
		s := api.Scene{Nodes: make([]api.Node, 4), Root: bits % 3}
		for i := range 16 {
			if bits>>i&1 == 1 {
				s.Nodes[i/4].Kids = append(s.Nodes[i/4].Kids, i%4)
			}
		}
		e, at := plainCheck(s)
		if gotE, gotAt := Check(s); gotE != e || gotAt != at {
			t.Errorf("Check(%v): %d at %d, not %d at %d", s, gotE, gotAt, e, at)
		}
		if got, want := Depth(s), plainDepth(s); got != want {
			t.Errorf("Depth(%v): %d, not %d", s, got, want)
		}
	}
}

// source makes scenes that are often nearly right.
type source struct{ next func(n int) int }

// places are the places from 0 on, mixed.
func (r source) places(count int) []int {
	l := make([]int, count)
	for i := range l {
		j := r.next(i + 1)
		l[i], l[j] = l[j], i
	}
	return l
}

// scene has mostly kids behind their node, in an order that is then mixed; here and there a kid ahead, or one that is no place.
func (r source) scene() (api.Scene, []int) {
	count := 1 + r.next(12)
	s := api.Scene{Nodes: make([]api.Node, count)}
	faults := r.next(4)
	for at := range count - 1 {
		// Each node but the root has someone ahead who leads to it, unless a fault asks for loose ones.
		if faults != 3 || r.next(6) > 0 {
			over := r.next(at + 1)
			s.Nodes[over].Kids = append(s.Nodes[over].Kids, at+1)
		}
		for range r.next(3) {
			s.Nodes[at].Kids = append(s.Nodes[at].Kids, at+1+r.next(count-at-1))
		}
	}
	if faults == 1 {
		for range 1 + r.next(3) {
			at := r.next(count)
			s.Nodes[at].Kids = append(s.Nodes[at].Kids, r.next(at+1))
		}
	}
	to := r.places(count)
	s = moved(s, to)
	if faults == 2 {
		switch at := r.next(count); r.next(6) {
		case 0:
			s.Nodes[at].Kids = append(s.Nodes[at].Kids, count)
		case 1:
			s.Nodes[at].Kids = append([]int{-1}, s.Nodes[at].Kids...)
		case 2:
			s.Root = count
		case 3:
			s.Root = at
		}
	}
	return s, to
}

// P9.1 to P9.3
func TestManyScenes(t *testing.T) {
	r := source{rand.New(rand.NewSource(1)).Intn}
	met := map[api.Errno]int{}
	for range 10000 {
		s, to := r.scene()
		checkAll(t, s)
		checkOrders(t, s, to)
		e, _ := Check(s)
		met[e]++
	}
	for _, e := range []api.Errno{api.OK, api.ErrRef, api.ErrCycle, api.ErrLoose} {
		if met[e] < 300 {
			t.Errorf("only %d scenes of %d", met[e], e)
		}
	}
}

// P9.1 to P9.3: whatever is handed in.
func FuzzAll(f *testing.F) {
	f.Add([]byte{})
	f.Add([]byte("\x03\x00\x00\x01\x00\x02\x00\x01\x01\x00\x00\x01\x02\x03"))
	f.Add([]byte("\x07\x01\x00\x02\x01\x00\x02\x02\x01\x00\x01\x03\x01\x01\x00\x02\x00\x01"))
	f.Add([]byte("\x05\x02\x00\x00\x00\x00\x01\x01\x01\x00\x00\x01\x02\x00\x04\x02\x01"))
	f.Fuzz(func(t *testing.T, b []byte) {
		at := 0
		s, to := source{func(n int) int {
			at++
			if at > len(b) {
				return 0
			}
			return int(b[at-1]) % n
		}}.scene()
		checkAll(t, s)
		checkOrders(t, s, to)
	})
}

// checkGreat wants Check, Depth and Below's count of the root to tell these; a great scene isn't told whole.
func checkGreat(t *testing.T, what string, s api.Scene, e api.Errno, at, depth, below int) {
	t.Helper()
	if gotE, gotAt := Check(s); gotE != e || gotAt != at {
		t.Errorf("%s: Check: %d at %d, not %d at %d", what, gotE, gotAt, e, at)
	}
	if got := Depth(s); got != depth {
		t.Errorf("%s: Depth: %d, not %d", what, got, depth)
	}
	if got := Below(s, s.Root); len(got) != below || !slices.IsSorted(got) {
		t.Errorf("%s: Below: %d, not %d", what, len(got), below)
	}
}

// P9.1, P9.2: ways down that are long.
func TestLongWays(t *testing.T) {
	const count = 1 << 18
	s := chain(count)
	checkGreat(t, "a chain", s, api.OK, 0, count, count)
	to := make([]int, count)
	for at := range to {
		to[at] = count - 1 - at
	}
	checkGreat(t, "a chain from the last on", moved(s, to), api.OK, 0, count, count)
	s.Nodes[count-1].Kids = []int{count - 1}
	checkGreat(t, "a chain to a cycle of one", s, api.ErrCycle, count-1, 0, count)
	s.Nodes[count-1].Kids = []int{count - 2}
	checkGreat(t, "a chain to a cycle of two", s, api.ErrCycle, count-2, 0, count)
	s.Nodes[count-1].Kids = []int{1}
	checkGreat(t, "a cycle of nearly all", s, api.ErrCycle, 1, 0, count)
	s.Nodes[count-1].Kids = []int{0}
	checkGreat(t, "a cycle of all", s, api.ErrCycle, 0, 0, count)
	// The chain lies between two cycles, so that it can't be told from them by what leads to it, nor by what it leads to.
	s.Nodes[count-2].Kids, s.Nodes[count-1].Kids, s.Root = []int{count - 2}, []int{count - 1, 0}, count-1
	checkGreat(t, "a chain between cycles", s, api.ErrCycle, count-2, 0, count)
}

// P9.1, P9.2: more ways down than could be gone one by one.
func TestManyWays(t *testing.T) {
	const count = 1 << 12
	s := chain(count)
	for at := range count - 1 {
		s.Nodes[at].Kids = []int{at + 1, min(at+2, count-1), at + 1}
	}
	checkGreat(t, "a ladder", s, api.OK, 0, count, count)
	s.Nodes[count-1].Kids = []int{count / 2}
	checkGreat(t, "a ladder with a cycle", s, api.ErrCycle, count/2, 0, count)
	wide := api.Scene{Nodes: make([]api.Node, count)}
	for i := range 1 << 18 {
		wide.Nodes[0].Kids = append(wide.Nodes[0].Kids, 1+i%(count-1))
	}
	checkGreat(t, "a wide one", wide, api.OK, 0, 2, count)
	if got := Edges(wide); got != 1<<18 {
		t.Errorf("a wide one: Edges: %d", got)
	}
	wide.Nodes[count-1].Kids = slices.Repeat([]int{count - 1}, 1<<18)
	checkGreat(t, "a wide one with a cycle", wide, api.ErrCycle, count-1, 0, count)
}

// P9.1: nodes whose kids are one list in memory.
func TestSharedLists(t *testing.T) {
	room := []int{3, 2, 3}
	s := api.Scene{Nodes: []api.Node{{Kids: []int{1, 4}}, {Kids: room}, {}, {Kids: room[1:2]}, {Kids: room[:2]}}}
	checkAll(t, s)
	checkCheck(t, s, api.OK, 0)
	checkCounts(t, s, 4, 8)
	if !slices.Equal(room, []int{3, 2, 3}) {
		t.Errorf("the list became %v", room)
	}
}
