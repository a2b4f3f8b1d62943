package field

import (
	"math"
	"math/rand"
	"slices"
	"strings"
	"testing"
	"unicode/utf8"

	"diorama/api"
	"diorama/schema"
)

// same tells whether two nodes say the same: nil and an empty list are one.
func same(a, b api.Node) bool {
	return a.Kind == b.Kind && slices.Equal(a.Ints, b.Ints) && slices.Equal(a.Texts, b.Texts) && slices.Equal(a.Kids, b.Kids)
}

// isZero tells whether a node is the zero one: nil and an empty list are one.
func isZero(n api.Node) bool { return same(n, api.Node{}) }

// marked are the lists of a node, with spare room behind each that is marked, so that it is seen whether a call writes there.
func marked(n api.Node) api.Node {
	n.Ints = append(append(make([]int64, 0, len(n.Ints)+3), n.Ints...), 77, 77, 77)[:len(n.Ints)]
	n.Texts = append(append(make([]string, 0, len(n.Texts)+3), n.Texts...), "mark", "mark", "mark")[:len(n.Texts)]
	n.Kids = append(append(make([]int, 0, len(n.Kids)+3), n.Kids...), 77, 77, 77)[:len(n.Kids)]
	return n
}

// checkMarked wants a node that marked made to be still as n, its spare room too.
func checkMarked(t *testing.T, what string, x, n api.Node) {
	t.Helper()
	if !same(x, n) {
		t.Errorf("%s: what was handed in became %v, from %v", what, x, n)
	}
	ints, texts, kids := x.Ints[len(x.Ints):cap(x.Ints)], x.Texts[len(x.Texts):cap(x.Texts)], x.Kids[len(x.Kids):cap(x.Kids)]
	if !slices.Equal(ints[:3], []int64{77, 77, 77}) || !slices.Equal(texts[:3], []string{"mark", "mark", "mark"}) || !slices.Equal(kids[:3], []int{77, 77, 77}) {
		t.Errorf("%s: the spare room became %v, %q, %v", what, ints, texts, kids)
	}
}

// spoil changes all that a node's lists have, and their spare room.
func spoil(n api.Node) {
	for i := range n.Ints[:cap(n.Ints)] {
		n.Ints[:cap(n.Ints)][i] = -99
	}
	for i := range n.Texts[:cap(n.Texts)] {
		n.Texts[:cap(n.Texts)][i] = "spoilt"
	}
	for i := range n.Kids[:cap(n.Kids)] {
		n.Kids[:cap(n.Kids)][i] = -99
	}
}

// notUTF8 are texts that aren't UTF-8.
func notUTF8() []string {
	return []string{
		"\xff", "a\xc3", "\x80", "\xc0\x80", "\xc1\xbf", "\xe0\x9f\xbf", "\xed\xa0\x80", "\xf0\x8f\xbf\xbf", "\xf4\x90\x80\x80",
		"\xe2\x82", "\xf8\x88\x80\x80\x80", "a\xffb", strings.Repeat("a", 1<<16) + "\xff",
	}
}

// someTexts are texts that are UTF-8.
func someTexts() []string {
	return []string{
		"", "a", "wood", "\x00", "\x7f", "\u0080", "\u07ff", "\u0800", "\ud7ff", "\ue000", "\ufffd", "\uffff", "\U00010000", "\U0010ffff",
		"\u00e9", "e\u0301", " ", "\n", strings.Repeat("\u20ac", 1<<12),
	}
}

// ends are the least and the greatest number of a class, by the words of chapter 7.
func ends(class int) (int64, int64) {
	switch class {
	case api.CFixed:
		return -1 << 47, 1 << 47
	case api.CSize:
		return 0, 1 << 47
	case api.CByte:
		return 0, 255
	case api.CBool:
		return 0, 1
	}
	return math.MinInt64, math.MaxInt64
}

// ordinary is a node that has what a Spec asks for, with its least kids.
func ordinary(s api.Spec) api.Node {
	n := api.Node{Kids: make([]int, s.Least)}
	for i := range s.Ints {
		n.Ints = append(n.Ints, int64(i%2))
	}
	for i := range s.Texts {
		n.Texts = append(n.Texts, strings.Repeat("t", i+1))
	}
	return n
}

// allSpecs are those of the kinds of both versions.
func allSpecs(t *testing.T) []api.Spec {
	t.Helper()
	var l []api.Spec
	for kind := 1; kind <= api.Kinds; kind++ {
		if s, ok := schema.New(kind); ok {
			l = append(l, s)
		}
		if s, ok := schema.Old(kind); ok {
			l = append(l, s)
		}
	}
	if len(l) != api.Kinds+api.OldKinds {
		t.Fatalf("%d kinds", len(l))
	}
	return l
}

// checkCheck wants Check to tell e, whatever the node's Kind is, and to leave the node as it is.
func checkCheck(t *testing.T, n api.Node, s api.Spec, e api.Errno) {
	t.Helper()
	classes := slices.Clone(s.Ints)
	for _, kind := range []int{n.Kind, 0, 1, 4, 8, 9, -1, math.MinInt, math.MaxInt} {
		n.Kind = kind
		x := marked(n)
		if got := Check(x, s); got != e {
			t.Errorf("Check(%.200v, %v): %d, not %d", n, s, got, e)
			return
		}
		checkMarked(t, "Check", x, n)
	}
	if !slices.Equal(s.Ints, classes) {
		t.Errorf("Check: the Spec's classes became %v, from %v", s.Ints, classes)
	}
}

// P8.1
func TestCheckOfOrdinaryNodes(t *testing.T) {
	for _, s := range allSpecs(t) {
		checkCheck(t, ordinary(s), s, api.OK)
	}
	ball, _ := schema.New(api.KBall)
	checkCheck(t, api.Node{Kind: api.KBall, Ints: []int64{5}, Texts: []string{"wood"}}, ball, api.OK)
	checkCheck(t, api.Node{Kind: api.KBall, Ints: []int64{-5}, Texts: []string{"wood"}}, ball, api.ErrField)
	checkCheck(t, api.Node{}, api.Spec{}, api.OK)
}

// P8.1: as many numbers as the Spec has classes, no more, no less.
func TestCheckCountsNumbers(t *testing.T) {
	for _, s := range allSpecs(t) {
		n := ordinary(s)
		for count := range 7 {
			n.Ints = make([]int64, count)
			want := api.ErrField
			if count == len(s.Ints) {
				want = api.OK
			}
			checkCheck(t, n, s, want)
		}
	}
}

// P8.1: each number, at each place, of its own class.
func TestCheckHoldsTheClasses(t *testing.T) {
	for _, s := range allSpecs(t) {
		for i, class := range s.Ints {
			low, high := ends(class)
			for _, x := range []int64{low, high, 0, 1} {
				n := ordinary(s)
				n.Ints[i] = x
				checkCheck(t, n, s, api.OK)
			}
			if class == api.CInt {
				continue
			}
			for _, x := range []int64{low - 1, high + 1, math.MinInt64, math.MaxInt64} {
				n := ordinary(s)
				n.Ints[i] = x
				checkCheck(t, n, s, api.ErrField)
			}
		}
	}
}

// P8.1: no number is of a class that there isn't; where there is no number, no class is asked.
func TestCheckOfNoClass(t *testing.T) {
	for _, class := range []int{0, -1, 6, 255, 256, 257, 1<<32 + 1, math.MinInt, math.MaxInt} {
		for _, x := range []int64{0, 1, -1} {
			checkCheck(t, api.Node{Ints: []int64{x}}, api.Spec{Ints: []int{class}}, api.ErrField)
			checkCheck(t, api.Node{Ints: []int64{0, x}}, api.Spec{Ints: []int{api.CInt, class}}, api.ErrField)
		}
		checkCheck(t, api.Node{}, api.Spec{Ints: []int{class}}, api.ErrField)
	}
}

// P8.1: as many texts as the Spec says, no more, no less. There are never fewer than none.
func TestCheckCountsTexts(t *testing.T) {
	for _, s := range allSpecs(t) {
		n := ordinary(s)
		for count := range 5 {
			n.Texts = make([]string, count)
			want := api.ErrText
			if count == s.Texts {
				want = api.OK
			}
			checkCheck(t, n, s, want)
		}
	}
	for _, texts := range []int{-1, -2, math.MinInt, math.MaxInt, 1 << 32} {
		for count := range 3 {
			checkCheck(t, api.Node{Texts: make([]string, count)}, api.Spec{Texts: texts}, api.ErrText)
		}
	}
}

// P8.1: each text, at each place, is UTF-8.
func TestCheckHoldsTheTexts(t *testing.T) {
	for count := 1; count <= 3; count++ {
		s := api.Spec{Texts: count}
		for at := range count {
			for _, text := range someTexts() {
				n := ordinary(s)
				n.Texts[at] = text
				checkCheck(t, n, s, api.OK)
			}
			for _, text := range notUTF8() {
				n := ordinary(s)
				n.Texts[at] = text
				checkCheck(t, n, s, api.ErrText)
			}
		}
	}
}

// P8.1: a text is looked at by itself: two pieces of one character aren't UTF-8.
func TestCheckOfTextsInPieces(t *testing.T) {
	checkCheck(t, api.Node{Texts: []string{"\xc3", "\xa9"}}, api.Spec{Texts: 2}, api.ErrText)
}

// P8.1: at least Least, at most Most, unless Most is below 0.
func TestCheckCountsKids(t *testing.T) {
	bounds := []int{math.MinInt, -2, -1, 0, 1, 2, 3, 4, 5, math.MaxInt}
	for _, least := range bounds {
		for _, most := range bounds {
			for count := range 6 {
				want := api.OK
				if count < least || most >= 0 && count > most {
					want = api.ErrKids
				}
				checkCheck(t, api.Node{Kids: make([]int, count)}, api.Spec{Least: least, Most: most}, want)
			}
		}
	}
}

// P8.1: the kinds' kids, by the words of chapter 7.
func TestCheckOfKindsKids(t *testing.T) {
	for _, s := range allSpecs(t) {
		n := ordinary(s)
		for _, count := range []int{0, 1, 2, 3, 1000} {
			n.Kids = make([]int, count)
			want := api.ErrKids
			if s.Most == -1 || count == s.Most {
				want = api.OK
			}
			checkCheck(t, n, s, want)
		}
	}
}

// P8.1: kids are counted; where they lead plays no part.
func TestCheckLeavesPlacesAlone(t *testing.T) {
	move, _ := schema.New(api.KMove)
	for _, kid := range []int{0, 1, -1, math.MinInt, math.MaxInt} {
		n := ordinary(move)
		n.Kids = []int{kid}
		checkCheck(t, n, move, api.OK)
	}
}

// part is one of a node's lists, and whether it is wrong.
type part[T any] struct {
	l     T
	wrong bool
}

// P8.1: of several errors the one that is named first.
func TestCheckTellsTheFirstError(t *testing.T) {
	s := api.Spec{Ints: []int{api.CByte, api.CBool}, Texts: 2, Least: 1, Most: 2}
	ints := []part[[]int64]{{[]int64{255, 1}, false}, {[]int64{255}, true}, {[]int64{256, 1}, true}, {[]int64{1, 2}, true}, {[]int64{1, 1, 1}, true}, {nil, true}}
	texts := []part[[]string]{{[]string{"a", ""}, false}, {[]string{"a"}, true}, {[]string{"\xff", ""}, true}, {[]string{"", "\xff"}, true}, {[]string{"", "", ""}, true}, {nil, true}}
	kids := []part[[]int]{{[]int{7}, false}, {[]int{7, 7}, false}, {nil, true}, {[]int{7, 7, 7}, true}}
	for _, i := range ints {
		for _, x := range texts {
			for _, k := range kids {
				want := api.OK
				switch {
				case i.wrong:
					want = api.ErrField
				case x.wrong:
					want = api.ErrText
				case k.wrong:
					want = api.ErrKids
				}
				checkCheck(t, api.Node{Ints: i.l, Texts: x.l, Kids: k.l}, s, want)
			}
		}
	}
}

// P8.1: nil and an empty list are one.
func TestCheckOfEmptyLists(t *testing.T) {
	empty := api.Node{Ints: []int64{}, Texts: []string{}, Kids: []int{}}
	for _, s := range []api.Spec{{}, {Ints: []int{}}, {Most: -1}, {Most: 5}} {
		for _, n := range []api.Node{{}, empty} {
			if got := Check(n, s); got != api.OK {
				t.Errorf("Check(%v, %v): %d", n, s, got)
			}
		}
	}
}

// checkSet wants Set to answer a node, in new memory, and to leave what it is handed as it is.
func checkSet(t *testing.T, n api.Node, want api.Node, l ...api.Set) {
	t.Helper()
	x, sets := marked(n), slices.Clone(l)
	got, e := Set(x, l...)
	if e != api.OK || !same(got, want) {
		t.Errorf("Set(%.200v, %.200v): %.200v, %d, not %.200v", n, l, got, e, want)
	}
	checkMarked(t, "Set", x, n)
	spoil(got)
	checkMarked(t, "Set, its answer changed", x, n)
	if !slices.Equal(l, sets) {
		t.Errorf("Set: the sets became %v, from %v", l, sets)
	}
	again, _ := Set(x, l...)
	spoil(x)
	if !same(again, want) {
		t.Errorf("Set: the answer became %v, as the argument was changed", again)
	}
}

// checkNoSet wants Set to refuse, with the zero node, and to leave what it is handed as it is.
func checkNoSet(t *testing.T, n api.Node, l ...api.Set) {
	t.Helper()
	x, sets := marked(n), slices.Clone(l)
	if got, e := Set(x, l...); e != api.ErrOp || !isZero(got) {
		t.Errorf("Set(%.200v, %.200v): %.200v, %d, not the zero node, %d", n, l, got, e, api.ErrOp)
	}
	checkMarked(t, "Set, refused", x, n)
	if !slices.Equal(l, sets) {
		t.Errorf("Set, refused: the sets became %v, from %v", l, sets)
	}
}

// label is a node with numbers, texts and kids. (That no kind has so many plays no part.)
func label() api.Node {
	return api.Node{Kind: api.KLabel, Ints: []int64{5, 6, 7}, Texts: []string{"a", "b"}, Kids: []int{4, 0, 4}}
}

// P8.2
func TestSetSetsOneField(t *testing.T) {
	for at := range label().Ints {
		for _, x := range []int64{0, 1, -1, 5, math.MinInt64, math.MaxInt64} {
			want := label()
			want.Ints[at] = x
			checkSet(t, label(), want, api.Set{Field: at, N: x})
		}
	}
	for at := range label().Texts {
		for _, s := range append(someTexts(), notUTF8()...) {
			want := label()
			want.Texts[at] = s
			checkSet(t, label(), want, api.Set{Text: true, Field: at, S: s})
		}
	}
}

// P8.2: no sets: the node as it is, whatever it is.
func TestSetOfNone(t *testing.T) {
	for _, n := range []api.Node{{}, label(), {Kind: -1}, {Kind: math.MaxInt, Kids: []int{-1}}, {Texts: []string{"\xff"}}} {
		checkSet(t, n, n)
		checkSet(t, n, n, []api.Set{}...)
	}
}

// P8.2: one after the other: what is set last stays.
func TestSetGoesByOrder(t *testing.T) {
	want := label()
	want.Ints[1], want.Ints[0], want.Texts[1] = 9, 0, ""
	checkSet(t, label(), want,
		api.Set{Field: 1, N: 8}, api.Set{Text: true, Field: 1, S: "c"}, api.Set{Field: 0, N: 3},
		api.Set{Field: 1, N: 9}, api.Set{Text: true, Field: 1}, api.Set{Field: 0})
}

// P8.2: Field is a place of what the node has, of the numbers or of the texts.
func TestSetKnowsThePlaces(t *testing.T) {
	for _, at := range []int{math.MinInt, math.MinInt + 1, -1 << 32, -3, -2, -1, 3, 4, 255, 256, 1 << 32, 1<<32 + 1, math.MaxInt} {
		checkNoSet(t, label(), api.Set{Field: at})
		checkNoSet(t, label(), api.Set{Field: at, N: 1})
		checkNoSet(t, label(), api.Set{Text: true, Field: at})
		checkNoSet(t, label(), api.Set{Text: true, Field: at, S: "c"})
	}
	checkNoSet(t, label(), api.Set{Text: true, Field: 2, S: "c"}) // a number's place, but no text's
	texts := api.Node{Texts: []string{"a", "b"}}
	checkNoSet(t, texts, api.Set{Field: 1, N: 1}) // a text's place, but no number's
	checkNoSet(t, api.Node{}, api.Set{})
	checkNoSet(t, api.Node{}, api.Set{Text: true})
	checkNoSet(t, api.Node{Kids: []int{1, 2}}, api.Set{})
}

// P8.2: the other one of N and S must be 0, or empty.
func TestSetWantsTheOtherOneEmpty(t *testing.T) {
	for _, s := range []string{"c", "\x00", " ", "\xff", "5"} {
		checkNoSet(t, label(), api.Set{Field: 0, S: s})
		checkNoSet(t, label(), api.Set{Field: 0, N: 1, S: s})
		checkNoSet(t, label(), api.Set{Field: 0, N: 5, S: s})
	}
	for _, n := range []int64{1, -1, 256, 1 << 32, math.MinInt64, math.MaxInt64} {
		checkNoSet(t, label(), api.Set{Text: true, Field: 0, N: n})
		checkNoSet(t, label(), api.Set{Text: true, Field: 0, N: n, S: "c"})
		checkNoSet(t, label(), api.Set{Text: true, Field: 0, N: n, S: "a"})
	}
}

// P8.2: one wrong set among right ones, wherever it stands: the whole is refused.
func TestSetRefusesAll(t *testing.T) {
	right := []api.Set{{Field: 0, N: 1}, {Text: true, Field: 1, S: "c"}, {Field: 2}, {Text: true, Field: 0}}
	for _, wrong := range []api.Set{{Field: -1}, {Field: 3}, {Text: true, Field: 2}, {Field: 0, S: "c"}, {Text: true, Field: 0, N: 1}} {
		for at := range len(right) + 1 {
			checkNoSet(t, label(), slices.Insert(slices.Clone(right), at, wrong)...)
		}
	}
}

// P8.2: neither the kind, nor the numbers' classes, nor UTF-8 play a part.
func TestSetOfAnyNode(t *testing.T) {
	for _, kind := range []int{0, -1, 9, api.KLight, math.MinInt, math.MaxInt} {
		n := api.Node{Kind: kind, Ints: []int64{0}, Texts: []string{""}}
		want := api.Node{Kind: kind, Ints: []int64{-1}, Texts: []string{"\xff"}}
		checkSet(t, n, want, api.Set{Field: 0, N: -1}, api.Set{Text: true, Field: 0, S: "\xff"})
	}
}

// checkDiff wants Diff to tell these sets, and to leave both nodes as they are.
func checkDiff(t *testing.T, a, b api.Node, want ...api.Set) {
	t.Helper()
	x, y := marked(a), marked(b)
	got, ok := Diff(x, y)
	if !ok || !slices.Equal(got, want) {
		t.Errorf("Diff(%.200v, %.200v): %.200v, %t, not %.200v", a, b, got, ok, want)
	}
	checkMarked(t, "Diff, the one", x, a)
	checkMarked(t, "Diff, the other one", y, b)
	made, e := Set(x, got...)
	b.Kids = a.Kids
	if e != api.OK || !same(made, b) {
		t.Errorf("Set(%.200v, %.200v): %.200v, %d, not %.200v", a, got, made, e, b)
	}
}

// checkNoDiff wants Diff to tell none, false, both ways round.
func checkNoDiff(t *testing.T, a, b api.Node) {
	t.Helper()
	for range 2 {
		x, y := marked(a), marked(b)
		if got, ok := Diff(x, y); ok || len(got) != 0 {
			t.Errorf("Diff(%.200v, %.200v): %.200v, %t", a, b, got, ok)
		}
		checkMarked(t, "Diff, the one", x, a)
		checkMarked(t, "Diff, the other one", y, b)
		a, b = b, a
	}
}

// P8.3: the chapter's example.
func TestDiffOfBalls(t *testing.T) {
	five := api.Node{Kind: api.KBall, Ints: []int64{5}, Texts: []string{"wood"}}
	six := api.Node{Kind: api.KBall, Ints: []int64{6}, Texts: []string{"wood"}}
	checkDiff(t, five, six, api.Set{Field: 0, N: 6})
	checkDiff(t, six, five, api.Set{Field: 0, N: 5})
}

// P8.3: by rising places, the numbers first; what is 0 or empty in b is told, too.
func TestDiffGoesByPlaces(t *testing.T) {
	a := api.Node{Kind: 3, Ints: []int64{1, 2, 3, 4}, Texts: []string{"a", "b", "c"}}
	checkDiff(t, a, api.Node{Kind: 3, Ints: []int64{0, -2, math.MinInt64, math.MaxInt64}, Texts: []string{"", "\xff", "a"}},
		api.Set{Field: 0}, api.Set{Field: 1, N: -2}, api.Set{Field: 2, N: math.MinInt64}, api.Set{Field: 3, N: math.MaxInt64},
		api.Set{Text: true, Field: 0}, api.Set{Text: true, Field: 1, S: "\xff"}, api.Set{Text: true, Field: 2, S: "a"})
	checkDiff(t, a, api.Node{Kind: 3, Ints: []int64{1, 9, 3, 9}, Texts: []string{"a", "b", "d"}},
		api.Set{Field: 1, N: 9}, api.Set{Field: 3, N: 9}, api.Set{Text: true, Field: 2, S: "d"})
	checkDiff(t, a, api.Node{Kind: 3, Ints: []int64{4, 3, 2, 1}, Texts: []string{"c", "b", "a"}},
		api.Set{Field: 0, N: 4}, api.Set{Field: 1, N: 3}, api.Set{Field: 2, N: 2}, api.Set{Field: 3, N: 1},
		api.Set{Text: true, Field: 0, S: "c"}, api.Set{Text: true, Field: 2, S: "a"})
}

// P8.3: of a node and itself there are none, but true.
func TestDiffOfTheSame(t *testing.T) {
	for _, n := range []api.Node{{}, label(), {Kind: -1, Ints: []int64{math.MinInt64}}, {Texts: []string{"\xff"}}} {
		checkDiff(t, n, n)
		if l, ok := Diff(n, n); !ok || len(l) != 0 {
			t.Errorf("Diff of %v and itself: %v, %t", n, l, ok)
		}
	}
	checkDiff(t, api.Node{Ints: []int64{}, Texts: []string{}, Kids: []int{}}, api.Node{})
	checkDiff(t, api.Node{}, api.Node{Ints: []int64{}, Texts: []string{}, Kids: []int{}})
}

// P8.3: kids play no part.
func TestDiffLeavesKidsAlone(t *testing.T) {
	a, b := label(), label()
	for _, kids := range [][]int{nil, {}, {4}, {4, 0, 5}, {0, 4, 4}, {4, 0, 4, 4}, {-1, math.MaxInt}} {
		b.Kids = kids
		checkDiff(t, a, b)
		checkDiff(t, b, a)
	}
	b.Ints[2] = 8
	checkDiff(t, a, b, api.Set{Field: 2, N: 8})
}

// P8.3: another kind, other counts: none.
func TestDiffOfUnlikeNodes(t *testing.T) {
	for _, change := range []func(*api.Node){
		func(n *api.Node) { n.Kind = api.KBall },
		func(n *api.Node) { n.Kind = 0 },
		func(n *api.Node) { n.Kind = -n.Kind },
		func(n *api.Node) { n.Kind += 1 << 32 },
		func(n *api.Node) { n.Ints = n.Ints[:2] },
		func(n *api.Node) { n.Ints = append(n.Ints, 0) },
		func(n *api.Node) { n.Ints = nil },
		func(n *api.Node) { n.Texts = n.Texts[:1] },
		func(n *api.Node) { n.Texts = append(n.Texts, "") },
		func(n *api.Node) { n.Texts = nil },
		func(n *api.Node) { n.Ints, n.Texts = n.Ints[:2], append(n.Texts, "") },
	} {
		n := label()
		change(&n)
		checkNoDiff(t, label(), n)
		n.Ints = slices.Clone(n.Ints)
		for i := range n.Ints {
			n.Ints[i]++
		}
		checkNoDiff(t, label(), n)
	}
}

// P8.3: texts are compared byte by byte.
func TestDiffComparesBytes(t *testing.T) {
	l := append(someTexts(), notUTF8()...)
	for _, x := range l {
		for _, y := range l {
			a, b := api.Node{Texts: []string{x}}, api.Node{Texts: []string{y}}
			if x == y {
				checkDiff(t, a, b)
			} else {
				checkDiff(t, a, b, api.Set{Text: true, Field: 0, S: y})
			}
		}
	}
}

// P8.3: the sets are new memory.
func TestDiffIsNewMemory(t *testing.T) {
	a, b := label(), label()
	b.Ints[0], b.Texts[1] = 9, "z"
	kept, _ := Diff(a, b)
	l, _ := Diff(a, b)
	for i := range l[:cap(l)] {
		l[:cap(l)][i] = api.Set{Field: -1}
	}
	spoil(a)
	spoil(b)
	if want := []api.Set{{Field: 0, N: 9}, {Text: true, Field: 1, S: "z"}}; !slices.Equal(kept, want) {
		t.Errorf("the sets became %v", kept)
	}
}

// P8.4
func TestCopyIsTheSame(t *testing.T) {
	for _, n := range []api.Node{
		{}, label(), {Kind: math.MinInt}, {Kind: math.MaxInt, Ints: []int64{math.MinInt64, math.MaxInt64}},
		{Texts: []string{"", "\xff", "\u20ac"}}, {Kids: []int{-1, 0, math.MaxInt}}, {Ints: []int64{}, Texts: []string{}, Kids: []int{}},
		{Kind: 1, Ints: make([]int64, 1000), Texts: make([]string, 1000), Kids: make([]int, 1000)},
	} {
		x := marked(n)
		if got := Copy(x); !same(got, n) {
			t.Errorf("Copy(%.200v): %.200v", n, got)
		}
		checkMarked(t, "Copy", x, n)
	}
}

// P8.4: in new memory: who changes the one, or makes it longer, doesn't change the other one.
func TestCopyIsNewMemory(t *testing.T) {
	for _, n := range []api.Node{label(), {}, {Ints: []int64{1}}, {Texts: []string{"a"}}, {Kids: []int{1}}} {
		x := marked(n)
		got := Copy(x)
		longer := api.Node{Ints: append(got.Ints, 1), Texts: append(got.Texts, "x"), Kids: append(got.Kids, 1)}
		spoil(longer)
		spoil(got)
		checkMarked(t, "Copy, changed", x, n)
		got = Copy(x)
		spoil(x)
		if !same(got, n) {
			t.Errorf("Copy: it became %v, as %v was changed", got, n)
		}
	}
}

// P8.4: a copy of lists that lie in one another's room, as pieces of one: the copy's lists share none.
func TestCopyOfPieces(t *testing.T) {
	room := []int64{1, 2, 3, 4}
	a, b := Copy(api.Node{Ints: room[:2]}), Copy(api.Node{Ints: room[2:]})
	a.Ints = append(a.Ints, 9, 9)
	if !slices.Equal(room, []int64{1, 2, 3, 4}) || !slices.Equal(b.Ints, []int64{3, 4}) || !slices.Equal(a.Ints, []int64{1, 2, 9, 9}) {
		t.Errorf("%v, %v, %v", room, a.Ints, b.Ints)
	}
}

// plainCheck is Check by the words of P8.1.
func plainCheck(n api.Node, s api.Spec) api.Errno {
	wrong := len(n.Ints) != len(s.Ints)
	for i := 0; i < min(len(n.Ints), len(s.Ints)); i++ {
		low, high := ends(s.Ints[i])
		wrong = wrong || s.Ints[i] < 1 || s.Ints[i] > 5 || n.Ints[i] < low || n.Ints[i] > high
	}
	if wrong {
		return api.ErrField
	}
	if len(n.Texts) != s.Texts || !utf8.ValidString(strings.Join(n.Texts, "\x00")) {
		return api.ErrText
	}
	if len(n.Kids) < s.Least || !(s.Most < 0 || len(n.Kids) <= s.Most) {
		return api.ErrKids
	}
	return api.OK
}

// plainSet is Set by the words of P8.2.
func plainSet(n api.Node, l []api.Set) (api.Node, api.Errno) {
	n.Ints, n.Texts = slices.Clone(n.Ints), slices.Clone(n.Texts)
	for _, x := range l {
		switch {
		case !x.Text && x.S == "" && x.Field >= 0 && x.Field < len(n.Ints):
			n.Ints[x.Field] = x.N
		case x.Text && x.N == 0 && x.Field >= 0 && x.Field < len(n.Texts):
			n.Texts[x.Field] = x.S
		default:
			return api.Node{}, api.ErrOp
		}
	}
	return n, api.OK
}

// plainDiff is Diff by the words of P8.3.
func plainDiff(a, b api.Node) (l []api.Set, ok bool) {
	if a.Kind != b.Kind || len(a.Ints) != len(b.Ints) || len(a.Texts) != len(b.Texts) {
		return nil, false
	}
	for i := range a.Ints {
		if a.Ints[i] != b.Ints[i] {
			l = append(l, api.Set{Field: i, N: b.Ints[i]})
		}
	}
	for i := range a.Texts {
		if a.Texts[i] != b.Texts[i] {
			l = append(l, api.Set{Text: true, Field: i, S: b.Texts[i]})
		}
	}
	return l, true
}

// source makes nodes, Specs and sets that are often nearly right.
type source struct{ next func(n int) int }

func (r source) number() int64 {
	l := []int64{0, 0, 1, 1, 2, -1, 255, 256, 1 << 47, 1<<47 + 1, -1 << 47, -1<<47 - 1, math.MinInt64, math.MaxInt64}
	return l[r.next(len(l))]
}

func (r source) text() string {
	l := []string{"", "", "a", "b", "wood", "\u00e9", "\u20ac", "\xff", "\xc3"}
	return l[r.next(len(l))]
}

func (r source) node() api.Node {
	n := api.Node{Kind: r.next(3)}
	for range r.next(4) {
		n.Ints = append(n.Ints, r.number())
	}
	for range r.next(3) {
		n.Texts = append(n.Texts, r.text())
	}
	for range r.next(4) {
		n.Kids = append(n.Kids, r.next(5)-1)
	}
	return n
}

// like is a node that has a's kind and counts, but for a number here and a text there.
func (r source) like(a api.Node) api.Node {
	n := api.Node{Kind: a.Kind, Ints: slices.Clone(a.Ints), Texts: slices.Clone(a.Texts)}
	for i := range n.Ints {
		if r.next(2) == 0 {
			n.Ints[i] = r.number()
		}
	}
	for i := range n.Texts {
		if r.next(2) == 0 {
			n.Texts[i] = r.text()
		}
	}
	return n
}

func (r source) spec(n api.Node) api.Spec {
	s := api.Spec{Texts: len(n.Texts), Least: r.next(3) - 1, Most: r.next(6) - 2}
	for range n.Ints {
		s.Ints = append(s.Ints, r.next(7))
	}
	if r.next(8) == 0 {
		s.Ints = append(s.Ints, 1)
	}
	if r.next(8) == 0 {
		s.Texts = r.next(5) - 1
	}
	return s
}

func (r source) sets() []api.Set {
	var l []api.Set
	for range r.next(4) {
		x := api.Set{Text: r.next(2) == 0, Field: r.next(4)}
		if x.Text {
			x.S = r.text()
		} else {
			x.N = r.number()
		}
		switch r.next(12) {
		case 0:
			x.N = r.number()
		case 1:
			x.S = r.text()
		case 2:
			x.Field = -1
		}
		l = append(l, x)
	}
	return l
}

// checkAll holds all calls against the promises' words, on what a source makes.
func checkAll(t *testing.T, r source) {
	t.Helper()
	a, b := r.node(), r.node()
	if r.next(2) == 0 {
		b = r.like(a)
	}
	s := r.spec(a)
	checkCheck(t, a, s, plainCheck(a, s))
	l := r.sets()
	if want, e := plainSet(a, l); e == api.OK {
		checkSet(t, a, want, l...)
	} else {
		checkNoSet(t, a, l...)
	}
	if want, ok := plainDiff(a, b); ok {
		checkDiff(t, a, b, want...)
	} else {
		checkNoDiff(t, a, b)
	}
	if !same(Copy(a), a) {
		t.Errorf("Copy(%v): %v", a, Copy(a))
	}
}

// P8.1 to P8.4
func TestManyNodes(t *testing.T) {
	r := source{rand.New(rand.NewSource(1)).Intn}
	for range 20000 {
		checkAll(t, r)
	}
}

// P8.1 to P8.4: whatever is handed in.
func FuzzAll(f *testing.F) {
	f.Add([]byte{})
	f.Add([]byte("\x01\x02\x03\x04\x05\x06\x07\x08\x09\x0a\x0b\x0c\x0d\x0e\x0f"))
	f.Add([]byte("\x02\x03\x00\x01\x02\x02\x02\x03\x01\x01\x02\x00\x00\x01\x00\x01"))
	f.Fuzz(func(t *testing.T, b []byte) {
		at := 0
		checkAll(t, source{func(n int) int {
			at++
			if at > len(b) {
				return 0
			}
			return int(b[at-1]) % n
		}})
	})
}
