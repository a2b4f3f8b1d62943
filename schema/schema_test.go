package schema

import (
	"bytes"
	"math"
	"math/rand"
	"reflect"
	"slices"
	"strings"
	"testing"

	"diorama/api"
)

// newSpecs are the kinds of version 2 by the chapter's table, from kind 1 on.
func newSpecs() []api.Spec {
	return []api.Spec{
		{Texts: 1, Most: -1},
		{Ints: []int{2, 2, 2}, Least: 1, Most: 1},
		{Ints: []int{3, 3, 3}, Texts: 1},
		{Ints: []int{3}, Texts: 1},
		{Ints: []int{3}, Texts: 2},
		{Ints: []int{1}, Most: -1},
		{Ints: []int{4, 4, 4, 5}},
		{Ints: []int{2, 2, 2}, Least: 1, Most: 1},
	}
}

// oldSpecs are the kinds of version 1 by the chapter's words, from kind 1 on.
func oldSpecs() []api.Spec {
	return []api.Spec{
		{Most: -1},
		{Ints: []int{2, 2, 2, 2}, Least: 1, Most: 1},
		{Ints: []int{3}, Texts: 1},
		{Ints: []int{3}, Texts: 1},
		{Texts: 1},
		{Ints: []int{4}},
	}
}

// newNames are the names of the kinds of version 2, from kind 1 on.
func newNames() []string {
	return []string{"group", "move", "box", "ball", "label", "switch", "light", "scale"}
}

// outside are numbers that are none of those from 1 to count.
func outside(count int) []int {
	return []int{
		math.MinInt, math.MinInt + 1, math.MinInt32, -256, -count - 1, -count, -2, -1, 0,
		count + 1, count + 2, 255, 256, 257, 1<<16 + 1, math.MaxInt32, 1 << 32, 1<<32 + 1, math.MaxInt - 1, math.MaxInt,
	}
}

// same tells whether two Specs say the same: nil and an empty list are one.
func same(a, b api.Spec) bool {
	return slices.Equal(a.Ints, b.Ints) && a.Texts == b.Texts && a.Least == b.Least && a.Most == b.Most
}

// checkSpecs wants ask to tell these specs from kind 1 on, and of other numbers none.
func checkSpecs(t *testing.T, ask func(int) (api.Spec, bool), l []api.Spec) {
	t.Helper()
	for i, want := range l {
		if got, ok := ask(i + 1); !ok || !same(got, want) {
			t.Errorf("kind %d: %v, %t, not %v", i+1, got, ok, want)
		}
	}
	for _, kind := range outside(len(l)) {
		if got, ok := ask(kind); ok || !same(got, api.Spec{}) {
			t.Errorf("kind %d: %v, %t, but there is no such kind", kind, got, ok)
		}
	}
}

// P7.1
func TestNewTellsEachKind(t *testing.T) {
	if n := len(newSpecs()); n != api.Kinds {
		t.Fatalf("%d kinds, not %d", n, api.Kinds)
	}
	checkSpecs(t, New, newSpecs())
}

// P7.1
func TestOldTellsEachKind(t *testing.T) {
	if n := len(oldSpecs()); n != api.OldKinds {
		t.Fatalf("%d kinds, not %d", n, api.OldKinds)
	}
	checkSpecs(t, Old, oldSpecs())
}

// P7.1: by the constants' names; the chapter's example is among them.
func TestKindsByTheirConstants(t *testing.T) {
	for _, x := range []struct {
		ask  func(int) (api.Spec, bool)
		kind int
		want api.Spec
	}{
		{New, api.KGroup, api.Spec{Texts: 1, Most: -1}},
		{New, api.KMove, api.Spec{Ints: []int{api.CFixed, api.CFixed, api.CFixed}, Least: 1, Most: 1}},
		{New, api.KBox, api.Spec{Ints: []int{api.CSize, api.CSize, api.CSize}, Texts: 1}},
		{New, api.KBall, api.Spec{Ints: []int{api.CSize}, Texts: 1}},
		{New, api.KLabel, api.Spec{Ints: []int{api.CSize}, Texts: 2}},
		{New, api.KSwitch, api.Spec{Ints: []int{api.CInt}, Most: -1}},
		{New, api.KLight, api.Spec{Ints: []int{api.CByte, api.CByte, api.CByte, api.CBool}}},
		{New, api.KScale, api.Spec{Ints: []int{api.CFixed, api.CFixed, api.CFixed}, Least: 1, Most: 1}},
		{Old, api.OGroup, api.Spec{Most: -1}},
		{Old, api.OTrans, api.Spec{Ints: []int{api.CFixed, api.CFixed, api.CFixed, api.CFixed}, Least: 1, Most: 1}},
		{Old, api.OCube, api.Spec{Ints: []int{api.CSize}, Texts: 1}},
		{Old, api.OSphere, api.Spec{Ints: []int{api.CSize}, Texts: 1}},
		{Old, api.OText, api.Spec{Texts: 1}},
		{Old, api.OLamp, api.Spec{Ints: []int{api.CByte}}},
	} {
		if got, ok := x.ask(x.kind); !ok || !same(got, x.want) {
			t.Errorf("kind %d: %v, %t, not %v", x.kind, got, ok, x.want)
		}
	}
}

// P7.1: whatever the number is.
func TestSpecsOfManyNumbers(t *testing.T) {
	l, old := newSpecs(), oldSpecs()
	for kind := -70000; kind <= 70000; kind++ {
		if _, ok := New(kind); ok != (kind >= 1 && kind <= len(l)) {
			t.Errorf("New(%d): %t", kind, ok)
		}
		if _, ok := Old(kind); ok != (kind >= 1 && kind <= len(old)) {
			t.Errorf("Old(%d): %t", kind, ok)
		}
	}
}

// spoil changes what was answered, its spare room too.
func spoil(s api.Spec) {
	s.Ints = s.Ints[:cap(s.Ints)]
	for i := range s.Ints {
		s.Ints[i] = 99
	}
}

// P7.1: each answer is new memory: whoever changes it hurts neither the table nor another answer.
func TestSpecsAreNewMemory(t *testing.T) {
	for _, x := range []struct {
		ask func(int) (api.Spec, bool)
		l   []api.Spec
	}{{New, newSpecs()}, {Old, oldSpecs()}} {
		for i, want := range x.l {
			kept, _ := x.ask(i + 1)
			for range 2 {
				s, _ := x.ask(i + 1)
				spoil(s)
			}
			if !same(kept, want) {
				t.Errorf("kind %d: an answer became %v", i+1, kept)
			}
		}
		checkSpecs(t, x.ask, x.l)
	}
}

// P7.2: the ends of each class, and what is next to them.
func TestInHoldsTheEnds(t *testing.T) {
	const most = 1 << 47
	for _, x := range []struct {
		class int
		n     int64
		want  bool
	}{
		{api.CInt, math.MinInt64, true}, {api.CInt, math.MaxInt64, true}, {api.CInt, 0, true}, {api.CInt, -1, true}, {api.CInt, most + 1, true}, {api.CInt, -most - 1, true},
		{api.CFixed, -most - 1, false}, {api.CFixed, -most, true}, {api.CFixed, -1, true}, {api.CFixed, 0, true}, {api.CFixed, most, true}, {api.CFixed, most + 1, false}, {api.CFixed, math.MinInt64, false}, {api.CFixed, math.MaxInt64, false},
		{api.CSize, -1, false}, {api.CSize, 0, true}, {api.CSize, 1, true}, {api.CSize, most, true}, {api.CSize, most + 1, false}, {api.CSize, -most, false}, {api.CSize, math.MinInt64, false}, {api.CSize, math.MaxInt64, false},
		{api.CByte, -1, false}, {api.CByte, 0, true}, {api.CByte, 255, true}, {api.CByte, 256, false}, {api.CByte, 1 << 32, false}, {api.CByte, math.MinInt64, false}, {api.CByte, math.MaxInt64, false},
		{api.CBool, -1, false}, {api.CBool, 0, true}, {api.CBool, 1, true}, {api.CBool, 2, false}, {api.CBool, 1<<32 + 1, false}, {api.CBool, math.MinInt64, false}, {api.CBool, math.MaxInt64, false},
	} {
		if got := In(x.class, x.n); got != x.want {
			t.Errorf("In(%d, %d): %t", x.class, x.n, got)
		}
	}
}

// someNumbers are numbers near the ends of the classes and of the number kinds, and others.
func someNumbers() []int64 {
	var l []int64
	for bits := range 64 {
		for near := int64(-2); near <= 2; near++ {
			l = append(l, 1<<bits+near, -1<<bits+near)
		}
	}
	for n := int64(-300); n <= 300; n++ {
		l = append(l, n)
	}
	r := rand.New(rand.NewSource(1))
	for range 2000 {
		l = append(l, int64(r.Uint64())>>r.Intn(64))
	}
	return l
}

// plainIn is whether n is of a class by the chapter's words.
func plainIn(class int, n int64) bool {
	switch class {
	case 1:
		return true
	case 2:
		return !(n < -(1<<47) || n > 1<<47)
	case 3:
		return !(n < 0 || n > 1<<47)
	case 4:
		return n == int64(byte(n))
	case 5:
		return n == 0 || n == 1
	}
	return false
}

// P7.2: of another class: false, whatever the number is.
func TestInOfManyNumbers(t *testing.T) {
	classes := append(outside(5), 1, 2, 3, 4, 5)
	for _, n := range someNumbers() {
		for _, class := range classes {
			if got := In(class, n); got != plainIn(class, n) {
				t.Errorf("In(%d, %d): %t", class, n, got)
			}
		}
	}
}

// P7.2: the classes that the kinds have are classes, so that each kind has nodes.
func TestKindsHaveClasses(t *testing.T) {
	for kind := 1; kind <= api.Kinds; kind++ {
		s, _ := New(kind)
		old, _ := Old(kind)
		for _, class := range append(s.Ints, old.Ints...) {
			if !In(class, 0) || !In(class, 1) {
				t.Errorf("kind %d: 0 or 1 isn't of class %d", kind, class)
			}
		}
	}
}

// P7.3
func TestNamesAndKinds(t *testing.T) {
	for i, want := range newNames() {
		if got := Name(i + 1); got != want {
			t.Errorf("Name(%d): %q, not %q", i+1, got, want)
		}
		if kind, ok := Kind(want); kind != i+1 || !ok {
			t.Errorf("Kind(%q): %d, %t, not %d", want, kind, ok, i+1)
		}
	}
	for _, x := range []struct {
		kind int
		name string
	}{
		{api.KGroup, "group"}, {api.KMove, "move"}, {api.KBox, "box"}, {api.KBall, "ball"},
		{api.KLabel, "label"}, {api.KSwitch, "switch"}, {api.KLight, "light"}, {api.KScale, "scale"},
	} {
		if got := Name(x.kind); got != x.name {
			t.Errorf("Name(%d): %q, not %q", x.kind, got, x.name)
		}
	}
}

// P7.3: no kind, no name.
func TestNamesOfNoKind(t *testing.T) {
	for _, kind := range outside(api.Kinds) {
		if got := Name(kind); got != "" {
			t.Errorf("Name(%d): %q", kind, got)
		}
	}
	for kind := -70000; kind <= 70000; kind++ {
		if got := Name(kind); (got != "") != (kind >= 1 && kind <= api.Kinds) {
			t.Errorf("Name(%d): %q", kind, got)
		}
	}
}

// checkNoKind wants a name to be none.
func checkNoKind(t *testing.T, name string) {
	t.Helper()
	if kind, ok := Kind(name); kind != 0 || ok {
		t.Errorf("Kind(%.60q): %d, %t", name, kind, ok)
	}
}

// P7.3: what is nearly a name is none: names are compared byte by byte, as a whole. Nor have version 1's kinds names.
func TestKindsOfNoName(t *testing.T) {
	for _, name := range []string{
		"", " ", "\x00", "trans", "cube", "sphere", "text", "lamp", "KGroup", "OGroup", "1", "8", "none", "kind", "name",
		"\xff", "b\u00f6x", "\uff42ox", strings.Repeat("group", 2), strings.Repeat("x", 1<<20),
	} {
		checkNoKind(t, name)
	}
	for _, name := range newNames() {
		for _, wrong := range []string{
			" " + name, name + " ", name + "\n", name + "\x00", "\x00" + name, name + "s", name + name,
			strings.ToUpper(name), strings.ToUpper(name[:1]) + name[1:], name[1:], name[:len(name)-1],
		} {
			checkNoKind(t, wrong)
		}
	}
}

// P7.3: each name with one byte changed.
func TestKindsOfChangedNames(t *testing.T) {
	for _, name := range newNames() {
		for at := range len(name) {
			for c := range 256 {
				b := []byte(name)
				b[at] = byte(c)
				if !bytes.Equal(b, []byte(name)) && !slices.Contains(newNames(), string(b)) {
					checkNoKind(t, string(b))
				}
			}
		}
	}
}

// P7.1 to P7.3: an answer hangs on what is asked alone: the same again, in whatever order.
func TestAnswersStay(t *testing.T) {
	r := rand.New(rand.NewSource(2))
	first := map[int]api.Spec{}
	for range 2000 {
		kind := r.Intn(12) - 2
		s, _ := New(kind)
		if was, ok := first[kind]; ok && !reflect.DeepEqual(was, s) {
			t.Errorf("New(%d): %v, then %v", kind, was, s)
		}
		first[kind] = s
		Old(r.Intn(12) - 2)
		In(r.Intn(9)-2, r.Int63())
		Kind(Name(kind))
	}
}

// P7.1 to P7.3: whatever is asked.
func FuzzAll(f *testing.F) {
	f.Add(7, int64(-1), "light")
	f.Add(3, int64(1)<<47, "")
	f.Add(math.MinInt, int64(math.MinInt64), "\xff")
	f.Fuzz(func(t *testing.T, n int, number int64, name string) {
		if _, ok := New(n); ok != (n >= 1 && n <= 8) {
			t.Errorf("New(%d): %t", n, ok)
		}
		if _, ok := Old(n); ok != (n >= 1 && n <= 6) {
			t.Errorf("Old(%d): %t", n, ok)
		}
		if got := In(n, number); got != plainIn(n, number) {
			t.Errorf("In(%d, %d): %t", n, number, got)
		}
		if kind, ok := Kind(name); kind != slices.Index(newNames(), name)+1 || ok != (kind != 0) {
			t.Errorf("Kind(%q): %d, %t", name, kind, ok)
		}
		if kind, ok := Kind(Name(n)); ok != (n >= 1 && n <= 8) || ok && kind != n {
			t.Errorf("Kind(Name(%d)): %d, %t", n, kind, ok)
		}
	})
}
