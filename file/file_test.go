package file

import (
	"encoding/binary"
	"fmt"
	"hash/crc32"
	"math"
	"math/rand"
	"runtime"
	"slices"
	"strings"
	"testing"

	"diorama/api"
	"diorama/limit"
	"diorama/nodes"
)

// most is 2^24, the greatest number that a limit may be, by the chapters' words.
const most = 16777216

// widest are the greatest limits that may be.
func widest() api.Limits {
	return api.Limits{Bytes: most, Nodes: most, Edges: most, Depth: most, Text: most}
}

// parts are the five of limits, to be changed one by one.
func parts(l *api.Limits) []*int {
	return []*int{&l.Bytes, &l.Nodes, &l.Edges, &l.Depth, &l.Text}
}

// measure is how much a scene has, and its file.
func measure(s api.Scene, b string) api.Limits {
	l := limit.Measure(s)
	l.Bytes = len(b)
	return l
}

// made is nodes, of which the last one is the root.
func made(nodes ...api.Node) api.Scene {
	return api.Scene{Nodes: nodes, Root: len(nodes) - 1}
}

func group(name string, kids ...int) api.Node {
	return api.Node{Kind: api.KGroup, Texts: []string{name}, Kids: kids}
}

func move(x, y, z int64, kids ...int) api.Node {
	return api.Node{Kind: api.KMove, Ints: []int64{x, y, z}, Kids: kids}
}

func box(w, h, d int64, material string) api.Node {
	return api.Node{Kind: api.KBox, Ints: []int64{w, h, d}, Texts: []string{material}}
}

func ball(r int64, material string) api.Node {
	return api.Node{Kind: api.KBall, Ints: []int64{r}, Texts: []string{material}}
}

func label(size int64, text, font string) api.Node {
	return api.Node{Kind: api.KLabel, Ints: []int64{size}, Texts: []string{text, font}}
}

func choice(which int64, kids ...int) api.Node {
	return api.Node{Kind: api.KSwitch, Ints: []int64{which}, Kids: kids}
}

func light(l ...int64) api.Node { return api.Node{Kind: api.KLight, Ints: l} }

func scale(x, y, z int64, kids ...int) api.Node {
	return api.Node{Kind: api.KScale, Ints: []int64{x, y, z}, Kids: kids}
}

func sameNode(a, b api.Node) bool {
	return a.Kind == b.Kind && slices.Equal(a.Ints, b.Ints) && slices.Equal(a.Texts, b.Texts) && slices.Equal(a.Kids, b.Kids)
}

func same(a, b api.Scene) bool {
	return a.Root == b.Root && slices.EqualFunc(a.Nodes, b.Nodes, sameNode)
}

// brief is a scene as far as a message has room for it.
func brief(s api.Scene) string {
	text := fmt.Sprint(s)
	return text[:min(len(text), 300)]
}

// section is a section's bytes, by the words of chapter 4 and the library's means.
func section(id byte, payload string) string {
	b := binary.AppendUvarint([]byte{id}, uint64(len(payload)))
	b = append(b, payload...)
	return string(binary.LittleEndian.AppendUint32(b, crc32.ChecksumIEEE([]byte(payload))))
}

// whole is a file of these payloads, by the chapter's words.
func whole(texts, nodes string) string {
	return "DIOR\x02" + section(1, texts) + section(2, nodes)
}

// ordered is a valid scene in its canonical order, by the words of chapter 10; of few levels, as it calls itself.
func ordered(s api.Scene) api.Scene {
	places, l := map[int]int{}, []api.Node{}
	var down func(at int)
	down = func(at int) {
		if _, ok := places[at]; ok {
			return
		}
		n := s.Nodes[at]
		n.Kids = slices.Clone(n.Kids)
		for i, kid := range n.Kids {
			down(kid)
			n.Kids[i] = places[kid]
		}
		places[at] = len(l)
		l = append(l, n)
	}
	down(s.Root)
	return made(l...)
}

// tableOf is a canonical scene's texts, by the words of chapter 14.
func tableOf(s api.Scene) []string {
	var l []string
	for _, n := range s.Nodes {
		for _, text := range n.Texts {
			if !slices.Contains(l, text) {
				l = append(l, text)
			}
		}
	}
	return l
}

// payloads are the bytes of a table, and of a scene's nodes by it, by the words of chapters 6, 13 and 14 and the library's means. Kids have to stand ahead; the scene may have other faults.
func payloads(s api.Scene, table []string) (string, string) {
	texts := binary.AppendUvarint(nil, uint64(len(table)))
	for _, text := range table {
		texts = binary.AppendUvarint(texts, uint64(len(text)))
		texts = append(texts, text...)
	}
	b := binary.AppendUvarint(nil, uint64(len(s.Nodes)))
	for at, n := range s.Nodes {
		b = binary.AppendUvarint(b, uint64(n.Kind))
		for _, x := range n.Ints {
			b = binary.AppendVarint(b, x)
		}
		for _, text := range n.Texts {
			b = binary.AppendUvarint(b, uint64(slices.Index(table, text)))
		}
		b = binary.AppendUvarint(b, uint64(len(n.Kids)))
		for _, kid := range n.Kids {
			b = binary.AppendUvarint(b, uint64(at-kid))
		}
	}
	return string(texts), string(b)
}

// plainFile is the file of a valid scene, by the chapters' words.
func plainFile(s api.Scene) string {
	s = ordered(s)
	return whole(payloads(s, tableOf(s)))
}

// plainSave is Save by the chapter's words.
func plainSave(s api.Scene, l api.Limits) (string, api.Errno) {
	if e, _ := limit.Valid(s, l); e != api.OK {
		return "", e
	}
	b := plainFile(s)
	if len(b) > l.Bytes {
		return "", api.ErrLimit
	}
	return b, api.OK
}

// plainLength is a length and how many bytes it takes, by the words of chapter 1.
func plainLength(b string) (uint64, int, api.Errno) {
	var n uint64
	for i := range len(b) {
		if i == 9 && b[i] > 1 || i > 0 && b[i] == 0 {
			return 0, 0, api.ErrLong
		}
		n += uint64(b[i]&127) << (7 * i)
		if b[i] < 128 {
			return n, i + 1, api.OK
		}
	}
	return 0, 0, api.ErrCut
}

// part is a section as plainSections reads it.
type part struct {
	id      byte
	payload string
}

// plainSections are a file's version and sections, by the words of chapter 4.
func plainSections(b string) (byte, []part, api.Errno) {
	switch {
	case !strings.HasPrefix(b, "DIOR"):
		return 0, nil, api.ErrMagic
	case len(b) == 4:
		return 0, nil, api.ErrCut
	case b[4] == 0:
		return 0, nil, api.ErrVersion
	}
	var l []part
	for at := 5; at < len(b); {
		if len(l) == 8 {
			return 0, nil, api.ErrMore
		}
		id := b[at]
		if id == 0 {
			return 0, nil, api.ErrForm
		}
		n, size, e := plainLength(b[at+1:])
		if e != api.OK {
			return 0, nil, e
		}
		if n > most {
			return 0, nil, api.ErrLimit
		}
		from := at + 1 + size
		to := from + int(n)
		if to+4 > len(b) {
			return 0, nil, api.ErrCut
		}
		if binary.LittleEndian.Uint32([]byte(b[to:to+4])) != crc32.ChecksumIEEE([]byte(b[from:to])) {
			return 0, nil, api.ErrCrc
		}
		l = append(l, part{id, b[from:to]})
		at = to + 4
	}
	return b[4], l, api.OK
}

// plainLoad is Load by the chapter's words; what is in the sections it leaves to layer 14.
func plainLoad(b string, l api.Limits) (api.Scene, api.Errno) {
	for _, n := range parts(&l) {
		if *n < 0 || *n > most {
			return api.Scene{}, api.ErrArg
		}
	}
	if len(b) > l.Bytes {
		return api.Scene{}, api.ErrLimit
	}
	version, sections, e := plainSections(b)
	switch {
	case e != api.OK:
		return api.Scene{}, e
	case version != 2:
		return api.Scene{}, api.ErrVersion
	case len(sections) != 2 || sections[0].id != 1 || sections[1].id != 2:
		return api.Scene{}, api.ErrForm
	}
	return nodes.Get(sections[0].payload, sections[1].payload, l)
}

// mark is what lies in the spare room behind the lists that marked makes.
const mark = 77

// roomy is a list with two marks in the spare room behind it.
func roomy[T any](l []T, m T) []T {
	return append(append(make([]T, 0, len(l)+2), l...), m, m)[:len(l)]
}

// markedRoom tells whether a list has still its marks behind it.
func markedRoom[T comparable](l []T, m T) bool {
	return slices.Equal(l[len(l):cap(l)][:2], []T{m, m})
}

// marked is a scene like s, with marks in the spare room behind all its lists.
func marked(s api.Scene) api.Scene {
	l := make([]api.Node, 0, len(s.Nodes)+1)
	for _, n := range s.Nodes {
		l = append(l, api.Node{Kind: n.Kind, Ints: roomy(n.Ints, mark), Texts: roomy(n.Texts, "mark"), Kids: roomy(n.Kids, mark)})
	}
	l[:cap(l)][len(l)].Kind = mark
	return api.Scene{Nodes: l, Root: s.Root}
}

// checkMarked wants a scene that marked made of s to be still as it was, its spare room too.
func checkMarked(t *testing.T, x, s api.Scene) {
	t.Helper()
	ok := same(x, s) && sameNode(x.Nodes[:len(x.Nodes)+1][len(x.Nodes)], api.Node{Kind: mark})
	for _, n := range x.Nodes {
		ok = ok && markedRoom(n.Ints, mark) && markedRoom(n.Texts, "mark") && markedRoom(n.Kids, mark)
	}
	if !ok {
		t.Errorf("Save: what was handed in became %s, from %s", brief(x), brief(s))
	}
}

// spoil changes all that a node's lists hold, their spare room too.
func spoil(n api.Node) {
	for i := range n.Ints[:cap(n.Ints)] {
		n.Ints[:cap(n.Ints)][i] = -99
	}
	for i := range n.Texts[:cap(n.Texts)] {
		n.Texts[:cap(n.Texts)][i] = "spoilt"
	}
	for i := range n.Kids[:cap(n.Kids)] {
		n.Kids[:cap(n.Kids)][i] = -99
	}
}

// checkSave wants Save to tell this, whenever it is asked, and the scene to stay as it is.
func checkSave(t *testing.T, s api.Scene, l api.Limits, b string, e api.Errno) {
	t.Helper()
	x := marked(s)
	for range 2 {
		if got, gotE := Save(x, l); got != b || gotE != e {
			t.Errorf("Save(%s, %v): %.300x, %d, not %.300x, %d", brief(s), l, got, gotE, b, e)
		}
	}
	checkMarked(t, x, s)
}

// checkLoad wants Load to tell this, whenever it is asked.
func checkLoad(t *testing.T, b string, l api.Limits, s api.Scene, e api.Errno) {
	t.Helper()
	for range 2 {
		got, gotE := Load(b, l)
		if gotE != e || !same(got, s) {
			t.Errorf("Load(%.300x, %v): %s, %d, not %s, %d", b, l, brief(got), gotE, brief(s), e)
		}
		for _, n := range got.Nodes {
			spoil(n)
		}
	}
}

// checkWrong wants Load to refuse the bytes.
func checkWrong(t *testing.T, b string, l api.Limits, e api.Errno) {
	t.Helper()
	checkLoad(t, b, l, api.Scene{}, e)
}

// checkScene holds Save against the promises' words, and what is saved against its scene; it tells what is wrong with it.
func checkScene(t *testing.T, s api.Scene, l api.Limits) api.Errno {
	t.Helper()
	b, e := plainSave(s, l)
	checkSave(t, s, l, b, e)
	if e == api.OK {
		checkLoad(t, b, l, ordered(s), api.OK)
		checkSave(t, ordered(s), l, b, api.OK)
	}
	return e
}

// checkBytes holds Load against the promises' words, and what is loaded against its file; it tells what is wrong with it.
func checkBytes(t *testing.T, b string, l api.Limits) api.Errno {
	t.Helper()
	s, e := plainLoad(b, l)
	checkLoad(t, b, l, s, e)
	if e == api.OK {
		checkSave(t, s, l, b, api.OK)
		if wrong, at := limit.Valid(s, l); wrong != api.OK {
			t.Errorf("Load(%.300x, %v): %s isn't valid: %d at %d", b, l, brief(s), wrong, at)
		}
	}
	return e
}

// spelling is a scene, and the payloads of its file.
type spelling struct {
	s            api.Scene
	texts, nodes string
}

// spellings are scenes with nodes of each kind, some in another order than the canonical one, and what stands for them by the chapters' words.
func spellings() []spelling {
	return []spelling{
		{made(ball(1, "a")), "\x01\x01a", "\x01\x04\x02\x00\x00"},
		{made(light(0, 0, 0, 0)), "\x00", "\x01\x07\x00\x00\x00\x00\x00"},
		{made(group("")), "\x01\x00", "\x01\x01\x00\x00"},
		{made(choice(-1)), "\x00", "\x01\x06\x01\x00"},
		{made(label(0, "b", "a")), "\x02\x01b\x01a", "\x01\x05\x00\x00\x01\x00"},
		// Two boxes that are alike, and one of one box twice.
		{made(box(1, 2, 3, "oak"), box(1, 2, 3, "oak"), group("g", 0, 1)), "\x02\x03oak\x01g", "\x03\x03\x02\x04\x06\x00\x00\x03\x02\x04\x06\x00\x00\x01\x01\x02\x02\x01"},
		{made(box(1, 2, 3, "oak"), group("g", 0, 0)), "\x02\x03oak\x01g", "\x02\x03\x02\x04\x06\x00\x00\x01\x01\x02\x01\x01"},
		// The same two, the root ahead.
		{api.Scene{Nodes: []api.Node{group("g", 2, 1), box(1, 2, 3, "oak"), box(1, 2, 3, "oak")}}, "\x02\x03oak\x01g", "\x03\x03\x02\x04\x06\x00\x00\x03\x02\x04\x06\x00\x00\x01\x01\x02\x02\x01"},
		{api.Scene{Nodes: []api.Node{group("g", 1, 1), box(1, 2, 3, "oak")}}, "\x02\x03oak\x01g", "\x02\x03\x02\x04\x06\x00\x00\x01\x01\x02\x01\x01"},
		// Texts and nodes by the order in which the root leads to them, not by that in which they are handed in.
		{made(ball(0, "a"), ball(0, "b"), choice(0, 1, 0)), "\x02\x01b\x01a", "\x03\x04\x00\x00\x00\x04\x00\x01\x00\x06\x00\x02\x02\x01"},
		{api.Scene{Nodes: []api.Node{choice(0, 2, 1), ball(0, "b"), ball(0, "a")}}, "\x02\x01a\x01b", "\x03\x04\x00\x00\x00\x04\x00\x01\x00\x06\x00\x02\x02\x01"},
		// A way down of each kind that has one kid, and a node that is met on two of them.
		{api.Scene{Nodes: []api.Node{scale(1, 1, 1, 3), choice(0, 2, 0), light(1, 2, 255, 1), move(-1, 0, 65536, 2)}, Root: 1}, "\x00",
			"\x04\x07\x02\x04\xfe\x03\x02\x00\x02\x01\x00\x80\x80\x08\x01\x01\x08\x02\x02\x02\x01\x01\x06\x00\x02\x03\x01"},
		{made(ball(1, "\u20ac"), group("e\u0301\x00", 0)), "\x02\x03\u20ac\x04e\u0301\x00", "\x02\x04\x02\x00\x00\x01\x01\x01\x01"},
		// Payloads whose lengths take two bytes.
		{made(group(strings.Repeat("n", 200))), "\x01\xc8\x01" + strings.Repeat("n", 200), "\x01\x01\x00\x00"},
		{long(200), "\x01\x00", "\xc9\x01" + strings.Repeat("\x07\x00\x00\x00\x00\x00", 200) + "\x01\x00\xc8\x01" + falling(200)},
	}
}

// long is a group of so many lights.
func long(count int) api.Scene {
	var l []api.Node
	var kids []int
	for at := range count {
		l = append(l, light(0, 0, 0, 0))
		kids = append(kids, at)
	}
	return made(append(l, group("", kids...))...)
}

// falling are the bytes of the numbers from a count down to 1.
func falling(count int) string {
	var b []byte
	for n := count; n > 0; n-- {
		b = binary.AppendUvarint(b, uint64(n))
	}
	return string(b)
}

// P15.1, P15.2: the chapter's example, byte by byte; it is the first one of the whole, too.
func TestExample(t *testing.T) {
	b := "\x44\x49\x4f\x52\x02" + "\x01\x03\x01\x01\x61\xaa\xd3\x2d\xdd" + "\x02\x05\x01\x04\x02\x00\x00\x94\x9d\xa4\x77"
	if len(b) != 25 {
		t.Errorf("%d bytes", len(b))
	}
	checkSave(t, made(ball(1, "a")), widest(), b, api.OK)
	checkLoad(t, b, widest(), made(ball(1, "a")), api.OK)
}

// W1, P15.3: the second and the third example of the whole.
func TestExamplesOfTheWhole(t *testing.T) {
	two, _ := Save(made(box(1, 1, 1, "a"), box(1, 1, 1, "a"), group("g", 0, 1)), widest())
	one, _ := Save(made(box(1, 1, 1, "a"), group("g", 0, 0)), widest())
	if two == "" || one == "" || two == one {
		t.Errorf("%x, %x", two, one)
	}
	s := api.Scene{Nodes: []api.Node{group("g", 2, 1), ball(1, "b"), ball(2, "c")}}
	b := plainFile(made(ball(2, "c"), ball(1, "b"), group("g", 0, 1)))
	for _, order := range orders(3) {
		checkSave(t, reordered(s, order), widest(), b, api.OK)
	}
}

// P15.1
func TestSaveTellsTheFile(t *testing.T) {
	for _, x := range spellings() {
		b := whole(x.texts, x.nodes)
		checkSave(t, x.s, widest(), b, api.OK)
		checkSave(t, x.s, measure(x.s, b), b, api.OK)
	}
}

// wrongScene is a scene, and why it isn't saved.
type wrongScene struct {
	s api.Scene
	e api.Errno
}

func wrongScenes() []wrongScene {
	return []wrongScene{
		{api.Scene{}, api.ErrRef},
		{api.Scene{Nodes: []api.Node{ball(1, "a")}, Root: 1}, api.ErrRef},
		{api.Scene{Nodes: []api.Node{ball(1, "a")}, Root: -1}, api.ErrRef},
		{made(ball(1, "a"), group("g", 0, 2)), api.ErrRef},
		{made(ball(1, "a"), group("g", 0, math.MinInt)), api.ErrRef},
		{made(group("g", 0)), api.ErrCycle},
		{made(group("g", 1), group("h", 0)), api.ErrCycle},
		{made(ball(1, "a"), ball(1, "a")), api.ErrLoose},
		{made(api.Node{}), api.ErrKind},
		{made(api.Node{Kind: 9}, group("g", 0)), api.ErrKind},
		{made(api.Node{Kind: -1}), api.ErrKind},
		{made(ball(-1, "a")), api.ErrField},
		{made(light(0, 0, 0, 2)), api.ErrField},
		{made(light(0, 0, 0)), api.ErrField},
		{made(ball(1, "\xc3")), api.ErrText},
		{made(api.Node{Kind: api.KGroup}), api.ErrText},
		{made(move(0, 0, 0)), api.ErrKids},
		{made(ball(1, "a"), move(0, 0, 0, 0, 0)), api.ErrKids},
		// Of several the one that limit.Valid names first.
		{made(ball(1, "\xc3"), api.Node{Kind: 9}), api.ErrText},
		{made(group("g", 9), ball(-1, "a")), api.ErrField},
		{made(group("g", 0), group("h", 9)), api.ErrRef},
	}
}

// P15.1
func TestSaveRefusesScenes(t *testing.T) {
	for _, x := range wrongScenes() {
		checkSave(t, x.s, widest(), "", x.e)
		// What is wrong with the scene is told ahead of limits that it is beyond.
		checkSave(t, x.s, api.Limits{}, "", x.e)
	}
}

// wrongLimits are limits that mayn't be, each by one of them.
func wrongLimits() []api.Limits {
	var out []api.Limits
	for i := range 5 {
		for _, n := range []int{-1, most + 1, math.MaxInt, math.MinInt, 1 << 32} {
			l := widest()
			*parts(&l)[i] = n
			out = append(out, l)
		}
	}
	return out
}

// P15.1, P15.2: limits that mayn't be, ahead of all that is wrong with the scene, or with the bytes.
func TestLimitsThatMaynotBe(t *testing.T) {
	for _, l := range wrongLimits() {
		for _, x := range spellings() {
			checkSave(t, x.s, l, "", api.ErrArg)
			checkWrong(t, whole(x.texts, x.nodes), l, api.ErrArg)
		}
		for _, x := range wrongScenes() {
			checkSave(t, x.s, l, "", api.ErrArg)
		}
		for _, b := range []string{"", "DIOP", "DIOR", "DIOR\x00", "DIOR\x01", "DIOR\x02", whole("", "")} {
			checkWrong(t, b, l, api.ErrArg)
		}
	}
}

// P15.1, P15.2: each limit, the bytes' among them, at what the scene and its file have, and one below it.
func TestWithinLimits(t *testing.T) {
	for _, x := range spellings() {
		b := whole(x.texts, x.nodes)
		m := measure(x.s, b)
		for i := range 5 {
			for _, l := range []api.Limits{m, widest()} {
				*parts(&l)[i] = *parts(&m)[i]
				checkSave(t, x.s, l, b, api.OK)
				checkLoad(t, b, l, ordered(x.s), api.OK)
				*parts(&l)[i]--
				e := api.ErrLimit
				if *parts(&l)[i] < 0 {
					e = api.ErrArg
				}
				checkSave(t, x.s, l, "", e)
				checkWrong(t, b, l, e)
			}
		}
	}
	checkSave(t, made(ball(1, "a")), api.Limits{}, "", api.ErrLimit)
	checkWrong(t, plainFile(made(ball(1, "a"))), api.Limits{}, api.ErrLimit)
}

// P15.2, P15.3
func TestLoadTellsTheScene(t *testing.T) {
	for _, x := range spellings() {
		b := whole(x.texts, x.nodes)
		checkLoad(t, b, widest(), ordered(x.s), api.OK)
		checkLoad(t, b, measure(x.s, b), ordered(x.s), api.OK)
	}
	checkLoad(t, whole("\x02\x01b\x01a", "\x03\x04\x00\x00\x00\x04\x00\x01\x00\x06\x00\x02\x02\x01"), widest(), made(ball(0, "b"), ball(0, "a"), choice(0, 0, 1)), api.OK)
}

// P15.2: more bytes than the limit lets there be, ahead of all that is wrong with them.
func TestLoadRefusesManyBytes(t *testing.T) {
	for _, b := range []string{"D", "DIOP", "DIOR", "DIOR\x00", "DIOR\x01", "DIOR\x02", "DIOR\x02\x00", whole("", ""), whole("\x01\x01a", "\x01\x04\x02\x00\x01")} {
		l := widest()
		_, e := plainLoad(b, l)
		l.Bytes = len(b)
		checkWrong(t, b, l, e)
		for _, n := range []int{0, len(b) / 2, len(b) - 1} {
			l.Bytes = n
			checkWrong(t, b, l, api.ErrLimit)
		}
	}
	checkWrong(t, "", api.Limits{}, api.ErrMagic)
	checkWrong(t, strings.Repeat("x", most), widest(), api.ErrMagic)
	checkWrong(t, strings.Repeat("x", most+1), widest(), api.ErrLimit)
}

// P15.2: what is wrong with the file's form is told ahead of its version, and of what its sections are.
func TestLoadRefusesFrames(t *testing.T) {
	b := plainFile(made(ball(1, "a")))
	empty := section(1, "")
	for _, x := range []struct {
		b string
		e api.Errno
	}{
		{"", api.ErrMagic},
		{"DIO", api.ErrMagic},
		{"dior" + b[4:], api.ErrMagic},
		{"DIOP" + b[4:], api.ErrMagic},
		{"\x00" + b, api.ErrMagic},
		{"DIOP", api.ErrMagic},
		{"DIOR", api.ErrCut},
		{"DIOR\x00", api.ErrVersion},
		{"DIOR\x00" + b[5:], api.ErrVersion},
		{"DIOR\x00\x00", api.ErrVersion},
		{"DIOR\x02\x00", api.ErrForm},
		{"DIOR\x01\x01", api.ErrCut},
		{"DIOR\x02" + strings.Repeat(empty, 9), api.ErrMore},
		{"DIOR\x02" + strings.Repeat(empty, 8) + "\x00", api.ErrMore},
		{"DIOR\x03" + strings.Repeat(empty, 9), api.ErrMore},
		{"DIOR\x02\x01\x81\x00" + b[7:], api.ErrLong},
		{"DIOR\x02\x01" + strings.Repeat("\xff", 10), api.ErrLong},
		{"DIOR\x02\x01" + strings.Repeat("\xff", 9), api.ErrCut},
		{"DIOR\x02\x01" + strings.Repeat("\xff", 9) + "\x01", api.ErrLimit},
		{"DIOR\x02\x01\x81\x80\x80\x08", api.ErrLimit},
		{"DIOR\x01\x01\x81\x80\x80\x08", api.ErrLimit},
		{"DIOR\x02\x01\x80\x80\x80\x08", api.ErrCut},
		{b + "\x01", api.ErrCut},
		{b + "\x00", api.ErrForm},
		{b + b, api.ErrCut}, // D is an Id, and I a length: 73
		{b[:len(b)-1], api.ErrCut},
		{b[:len(b)-1] + "\x00", api.ErrCrc},
		{"DIOR\x01" + b[5:len(b)-1] + "\x00", api.ErrCrc},
		{"DIOR\x02" + section(2, "") + section(1, "")[:5] + "\x01", api.ErrCrc},
	} {
		checkWrong(t, x.b, widest(), x.e)
	}
}

// P15.2: another version, ahead of what its sections are.
func TestLoadRefusesVersions(t *testing.T) {
	b := plainFile(made(ball(1, "a")))
	for version := 1; version < 256; version++ {
		head := "DIOR" + string([]byte{byte(version)})
		if version == 2 {
			checkLoad(t, head+b[5:], widest(), made(ball(1, "a")), api.OK)
			checkWrong(t, head, widest(), api.ErrForm)
			continue
		}
		for _, rest := range []string{"", b[5:], section(1, "") + section(1, ""), section(1, "\xff") + section(2, "\xff")} {
			checkWrong(t, head+rest, widest(), api.ErrVersion)
		}
	}
}

// P15.2: other sections than the two, ahead of what is in them.
func TestLoadRefusesSections(t *testing.T) {
	texts, records := "\x01\x01a", "\x01\x04\x02\x00\x00"
	one, two := section(1, texts), section(2, records)
	for _, rest := range []string{
		"", one, two, two + one, one + one, two + two, one + two + two, one + one + two, one + two + section(3, ""),
		section(3, "") + one + two, one + section(3, "") + two, one + section(3, records), section(3, texts) + two,
		section(2, texts) + section(1, records), section(1, records) + section(1, texts), one + two + one + two,
		one + section(255, records), section(255, texts) + two, strings.Repeat(one, 8), one + two + strings.Repeat(section(9, ""), 6),
		section(1, "\xff"), section(2, "\xff") + section(1, "\xff"), section(1, "\xff") + section(3, ""), section(1, "\xff") + two + two,
	} {
		checkWrong(t, "DIOR\x02"+rest, widest(), api.ErrForm)
	}
	checkLoad(t, "DIOR\x02"+one+two, widest(), made(ball(1, "a")), api.OK)
}

// P15.2: what layer 14 tells of the payloads, by its turns, and within the limits.
func TestLoadRefusesPayloads(t *testing.T) {
	texts, records := "\x01\x01a", "\x01\x04\x02\x00\x00"
	l := api.Limits{Bytes: 1000, Nodes: 3, Edges: 3, Depth: 2, Text: 3}
	for _, x := range []struct {
		texts, nodes string
		e            api.Errno
	}{
		{"", "", api.ErrCut},
		{"", records, api.ErrCut},
		{texts, "", api.ErrCut},
		{"\x81\x00", "", api.ErrLong},
		{"\x01\x04abcd", records, api.ErrLimit},
		{"\x01\x01\xff", records, api.ErrText},
		{"\x02\x01a\x01a", records, api.ErrTwice},
		{texts + "\x00", records, api.ErrMore},
		{texts, "\x00", api.ErrRef},
		{texts, "\x04", api.ErrLimit},
		{texts, "\x01\x09", api.ErrKind},
		{texts, "\x01\x04\x01\x00\x00", api.ErrField},
		{texts, "\x01\x04\x02\x01\x00", api.ErrRef},
		{texts, "\x01\x04\x02\x00\x01\x01", api.ErrKids},
		{texts, "\x01\x01\x00\x01\x00", api.ErrRef},
		{texts, "\x01\x01\x00\x04", api.ErrLimit},
		{texts, "\x02\x01\x00\x00\x01\x00\x01\x02", api.ErrRef},
		{texts, records + "\x00", api.ErrMore},
		{texts, "\x02\x01\x00\x00\x01\x00\x00", api.ErrLoose},
		{"\x00", "\x03\x06\x00\x00\x06\x00\x01\x01\x06\x00\x01\x01", api.ErrLimit},
		{"\x00", "\x03\x06\x00\x00\x06\x00\x00\x06\x00\x02\x01\x02", api.ErrOrder},
		{"\x01\x01a", "\x01\x06\x00\x00", api.ErrUnused},
		{"\x02\x01a\x01b", records, api.ErrUnused},
		{"\x02\x01a\x01b", "\x01\x05\x00\x01\x00\x00", api.ErrUnused},
	} {
		checkWrong(t, whole(x.texts, x.nodes), l, x.e)
		// A section's sum, the version and the sections themselves are held ahead of it.
		b := whole(x.texts, x.nodes)
		checkWrong(t, b[:len(b)-1]+string([]byte{b[len(b)-1] ^ 1}), l, api.ErrCrc)
		checkWrong(t, "DIOR\x03"+b[5:], l, api.ErrVersion)
		checkWrong(t, b+section(3, ""), l, api.ErrForm)
	}
	checkLoad(t, whole(texts, records), l, made(ball(1, "a")), api.OK)
}

// turned is b with some bits of its byte at a place turned.
func turned(b string, at int, bits byte) string {
	return b[:at] + string([]byte{b[at] ^ bits}) + b[at+1:]
}

// payloadAt is where the payloads of a file stand: from each first place up to the one behind.
func payloadAt(texts, nodes string) [2][2]int {
	first := len("DIOR\x02") + len(section(1, texts)) - 4 - len(texts)
	next := first + len(texts) + 4 + len(section(2, nodes)) - 4 - len(nodes)
	return [2][2]int{{first, first + len(texts)}, {next, next + len(nodes)}}
}

// P15.3: each bit of each payload, and bits within 32 on end of one of them.
func TestChangedPayloadsAreTold(t *testing.T) {
	r := rand.New(rand.NewSource(1))
	for _, x := range spellings() {
		b := whole(x.texts, x.nodes)
		for _, place := range payloadAt(x.texts, x.nodes) {
			if t.Failed() {
				return
			}
			for bit := place[0] * 8; bit < place[1]*8; bit++ {
				other := turned(b, bit/8, 1<<(bit%8))
				checkWrong(t, other, widest(), api.ErrCrc)
				for next := bit + 1; next < min(bit+32, place[1]*8); next++ {
					other = turned(other, next/8, byte(r.Intn(2))<<(next%8))
				}
				checkWrong(t, other, widest(), api.ErrCrc)
			}
		}
	}
}

// P15.2, P15.3: cut off, and with one bit turned or one byte more, less or another one, anywhere: an error, or it is saved as it was.
func TestLoadOfNearBytes(t *testing.T) {
	met := map[api.Errno]int{}
	for _, x := range spellings() {
		b := whole(x.texts, x.nodes)
		// Of a long row of nodes that are alike all places are alike, too.
		if len(b) > 400 {
			continue
		}
		l := measure(x.s, b)
		l.Bytes++
		for at := range len(b) {
			if cut := checkBytes(t, b[:at], l); cut == api.OK {
				t.Errorf("%x is a file without its end", b)
			}
			for bit := range 8 {
				met[checkBytes(t, turned(b, at, 1<<bit), l)]++
			}
			for _, more := range []string{"", "\x00", "\x01", "\x02", "\x80", "\xff"} {
				met[checkBytes(t, b[:at]+more+b[at:], l)]++
				met[checkBytes(t, b[:at]+more+b[at+1:], l)]++
			}
		}
	}
	for _, e := range []api.Errno{api.OK, api.ErrMagic, api.ErrVersion, api.ErrForm, api.ErrCut, api.ErrLong, api.ErrCrc} {
		if met[e] == 0 {
			t.Errorf("none of %d", e)
		}
	}
}

// P15.2, P15.3: payloads with one byte more, less or another one, under right sums.
func TestLoadOfNearPayloads(t *testing.T) {
	for _, x := range spellings() {
		if len(x.nodes) > 100 || len(x.texts) > 100 {
			continue
		}
		l := measure(x.s, whole(x.texts, x.nodes))
		l.Bytes++
		for _, b := range []string{"", "\x00", "\x01", "\x02", "\x03", "\x07", "\x7f", "\x80", "\xff"} {
			for at := range len(x.texts) {
				checkBytes(t, whole(x.texts[:at]+b+x.texts[at:], x.nodes), l)
				checkBytes(t, whole(x.texts[:at]+b+x.texts[at+1:], x.nodes), l)
			}
			for at := range len(x.nodes) {
				checkBytes(t, whole(x.texts, x.nodes[:at]+b+x.nodes[at:]), l)
				checkBytes(t, whole(x.texts, x.nodes[:at]+b+x.nodes[at+1:]), l)
			}
		}
	}
}

// orders are all rows in which so many places may stand.
func orders(count int) [][]int {
	if count == 0 {
		return [][]int{{}}
	}
	var out [][]int
	for _, l := range orders(count - 1) {
		for at := range count {
			out = append(out, slices.Insert(slices.Clone(l), at, count-1))
		}
	}
	return out
}

// reordered is a scene whose node at a place stands at order[place], whatever its kids and its root are.
func reordered(s api.Scene, order []int) api.Scene {
	place := func(at int) int {
		if at < 0 || at >= len(order) {
			return at
		}
		return order[at]
	}
	l := make([]api.Node, len(s.Nodes))
	for at, n := range s.Nodes {
		n.Kids = slices.Clone(n.Kids)
		for i, kid := range n.Kids {
			n.Kids[i] = place(kid)
		}
		l[order[at]] = n
	}
	return api.Scene{Nodes: l, Root: place(s.Root)}
}

// P15.3: however a scene's nodes are ordered, its file is the same.
func TestEachOrderHasOneFile(t *testing.T) {
	for _, s := range []api.Scene{
		made(ball(1, "a"), ball(1, "a"), ball(1, "a"), ball(1, "a"), group("g", 0, 1, 2, 3)),
		made(ball(1, "a"), ball(1, "b"), group("a", 1, 0), group("b", 0, 2), choice(3, 2, 3, 2)),
		made(light(1, 2, 3, 0), move(1, 2, 3, 0), scale(3, 2, 1, 1), group("g", 2, 0, 1), label(1, "g", "h"), group("h", 4, 3, 4)),
	} {
		b := plainFile(s)
		for _, order := range orders(len(s.Nodes)) {
			x := reordered(s, order)
			checkSave(t, x, widest(), b, api.OK)
			checkSave(t, x, measure(x, b), b, api.OK)
		}
		checkLoad(t, b, measure(s, b), ordered(s), api.OK)
	}
}

// smallNodes are nodes, some of which are alike but for their kids, that have up to two kids of these.
func smallNodes(kids []int) []api.Node {
	l := []api.Node{choice(0), ball(0, "a"), ball(0, "b"), group("a")}
	for _, one := range kids {
		l = append(l, choice(0, one), group("b", one), move(0, 0, 0, one))
		for _, other := range kids {
			l = append(l, choice(0, one, other))
		}
	}
	return l
}

// likeness is the same text for two scenes just if the one is the other one in another order: the least of the texts that all orders have.
func likeness(s api.Scene) string {
	least := ""
	for _, order := range orders(len(s.Nodes)) {
		if text := fmt.Sprintf("%+v", reordered(s, order)); least == "" || text < least {
			least = text
		}
	}
	return least
}

// P15.1 to P15.3: all small scenes; two have one file just if the one is the other one in another order.
func TestAllSmallScenes(t *testing.T) {
	met, files, likes := map[api.Errno]int{}, map[string]string{}, map[string]string{}
	look := func(s api.Scene) {
		if t.Failed() {
			return
		}
		e := checkScene(t, s, widest())
		met[e]++
		if e != api.OK {
			return
		}
		b, _ := Save(s, widest())
		like := likeness(s)
		if other, ok := files[like]; ok && other != b {
			t.Errorf("%s: %x, but in another order %x", brief(s), b, other)
		}
		if other, ok := likes[b]; ok && other != like {
			t.Errorf("%x is the file of %s and of %s", b, like, other)
		}
		files[like], likes[b] = b, like
	}
	for count := range 4 {
		eachSmallScene(count, look)
	}
	for _, e := range []api.Errno{api.OK, api.ErrRef, api.ErrCycle, api.ErrLoose} {
		if met[e] == 0 {
			t.Errorf("no scene of %d", e)
		}
	}
}

// eachSmallScene goes through all scenes of so many small nodes, whatever the kids' and the root's places are.
func eachSmallScene(count int, look func(s api.Scene)) {
	var kids []int
	for at := range count + 1 {
		kids = append(kids, at)
	}
	choices := smallNodes(kids)
	var grow func(l []api.Node)
	grow = func(l []api.Node) {
		if len(l) < count {
			for _, n := range choices {
				grow(append(slices.Clone(l), n))
			}
			return
		}
		for root := range count + 1 {
			look(api.Scene{Nodes: l, Root: root})
		}
	}
	grow(nil)
}

// source makes valid scenes, and others, and bytes that are often a file.
type source struct{ next func(n int) int }

func (r source) text() string {
	return []string{"", "a", "b", "ab", "\u20ac", "e\u0301", "\x00", "\U0010ffff", strings.Repeat("long", 40)}[r.next(9)]
}

// node is one that has its kids ahead of a place.
func (r source) node(at int) api.Node {
	kid := func() int { return []int{0, max(at-1, 0), r.next(max(at, 1))}[r.next(3)] }
	var kids []int
	if at > 0 {
		for range r.next(5) {
			kids = append(kids, kid())
		}
	}
	size := func() int64 { return []int64{0, 1, 65536, 1 << 47, 1000, 77}[r.next(6)] }
	switch kind := r.next(8); {
	case kind == 0 && at > 0:
		return move(-size(), size(), 5, kid())
	case kind == 1 && at > 0:
		return scale(size(), -size(), 5, kid())
	case kind == 2:
		return box(size(), size(), size(), r.text())
	case kind == 3:
		return ball(size(), r.text())
	case kind == 4:
		return label(size(), r.text(), r.text())
	case kind == 5:
		return light(int64(r.next(256)), 255, 0, int64(r.next(2)))
	case kind == 6:
		return choice([]int64{math.MinInt64, math.MaxInt64, -1, 0}[r.next(4)], kids...)
	}
	return group(r.text(), kids...)
}

// rising is a valid scene, all of whose kids stand ahead, but seldom in the canonical order.
func (r source) rising() api.Scene {
	var l []api.Node
	for at := range 1 + r.next(9) {
		l = append(l, r.node(at))
	}
	// The root leads to all that nothing else leads to.
	var kids []int
	for at := range l {
		if !slices.ContainsFunc(l, func(n api.Node) bool { return slices.Contains(n.Kids, at) }) {
			kids = append(kids, at)
		}
	}
	if len(kids) > 1 {
		l = append(l, choice(7, kids...))
	}
	return made(l...)
}

// scene is a valid one, in any order.
func (r source) scene() api.Scene {
	s := r.rising()
	return reordered(s, r.order(len(s.Nodes)))
}

// order is a row in which so many places may stand.
func (r source) order(count int) []int {
	var l []int
	for at := range count {
		l = slices.Insert(l, r.next(at+1), at)
	}
	return l
}

// breakScene makes something wrong with a scene, mostly.
func (r source) breakScene(s *api.Scene) {
	at := r.next(len(s.Nodes))
	n := &s.Nodes[at]
	switch r.next(8) {
	case 0:
		n.Kind = r.next(11) - 1
	case 1:
		n.Ints = slices.Repeat([]int64{-1 << 50}, len(n.Ints)+r.next(2))
	case 2:
		n.Texts = slices.Repeat([]string{"\xc3"}, len(n.Texts)+r.next(2))
	case 3:
		n.Kids = append(n.Kids, r.next(len(s.Nodes)+2)-1)
	case 4:
		n.Kids = slices.Repeat([]int{r.next(len(s.Nodes))}, len(n.Kids))
	case 5:
		s.Root = r.next(len(s.Nodes)+2) - 1
	case 6:
		s.Nodes = append(s.Nodes, light(0, 0, 0, 0))
	default:
		*n = r.node(at)
	}
}

// breakBytes makes something wrong with bytes, mostly.
func (r source) breakBytes(b string) string {
	at := r.next(len(b) + 1)
	switch r.next(4) {
	case 0:
		return b[:at]
	case 1:
		return b[:at] + []string{"\x00", "\x80", "\xff", "\x81\x80\x80\x08"}[r.next(4)] + b[at:]
	case 2:
		return b[:at] + b[min(at+1, len(b)):]
	}
	return b[:at] + string([]byte{byte(r.next(12))}) + b[min(at+1, len(b)):]
}

// breakFile is a file of a canonical scene, with something wrong, mostly.
func (r source) breakFile(s api.Scene) string {
	texts, nodes := payloads(s, tableOf(s))
	b := whole(texts, nodes)
	switch r.next(7) {
	case 0:
		return whole(r.breakBytes(texts), nodes)
	case 1:
		return whole(texts, r.breakBytes(nodes))
	case 2:
		return r.breakBytes(b)
	case 3:
		return "DIOR" + string([]byte{byte(r.next(4))}) + b[5:]
	case 4:
		return turned(b, r.next(len(b)), 1<<r.next(8))
	case 5:
		return whole(payloads(r.otherSpelling(s)))
	}
	b = "DIOR" + string([]byte{byte(1 + r.next(3))})
	for range r.next(10) {
		b += section(byte(1+r.next(3)), []string{texts, nodes}[r.next(2)])
	}
	return b
}

// otherSpelling is a scene, in another order than the canonical one or with a loose node, mostly, or a table of its texts that isn't its own.
func (r source) otherSpelling(s api.Scene) (api.Scene, []string) {
	table := tableOf(s)
	switch r.next(4) {
	case 0:
		s = r.rising()
		return s, tableOf(s)
	case 1:
		s = made(append(slices.Clone(s.Nodes), group(r.text()))...)
		return s, tableOf(s)
	case 2:
		slices.Reverse(table)
		return s, table
	}
	return s, slices.Insert(table, r.next(len(table)+1), "unused")
}

// limits are these, mostly, or one more or less of one of them.
func (r source) limits(l api.Limits) api.Limits {
	if r.next(2) == 0 {
		*parts(&l)[r.next(5)] += r.next(3) - 1
	}
	return l
}

// checkSource holds both calls against the promises' words, on what a source makes; it tells what they tell of what is broken.
func checkSource(t *testing.T, r source) (api.Errno, api.Errno) {
	t.Helper()
	s := r.scene()
	b := plainFile(s)
	l := measure(s, b)
	if e := checkScene(t, s, l); e != api.OK {
		t.Errorf("%s: %d", brief(s), e)
	}
	checkSave(t, reordered(s, r.order(len(s.Nodes))), l, b, api.OK)
	near := r.limits(l)
	checkScene(t, s, near)
	checkBytes(t, b, near)
	l.Bytes *= 3
	got := checkBytes(t, r.breakFile(ordered(s)), r.limits(l))
	broken := marked(s)
	r.breakScene(&broken)
	return checkScene(t, broken, r.limits(measure(s, b))), got
}

// P15.1 to P15.3
func TestManyScenes(t *testing.T) {
	r := source{rand.New(rand.NewSource(2)).Intn}
	save, load := map[api.Errno]int{}, map[api.Errno]int{}
	for range 10000 {
		s, l := checkSource(t, r)
		save[s]++
		load[l]++
		if t.Failed() {
			return
		}
	}
	for _, e := range []api.Errno{api.OK, api.ErrKind, api.ErrField, api.ErrText, api.ErrKids, api.ErrRef, api.ErrCycle, api.ErrLoose, api.ErrLimit} {
		if save[e] < 10 {
			t.Errorf("only %d scenes of %d", save[e], e)
		}
	}
	for e := api.OK; e <= api.ErrLimit; e++ {
		if e != api.ErrArg && e != api.ErrCycle && load[e] < 10 {
			t.Errorf("only %d files of %d", load[e], e)
		}
	}
}

// P15.1 to P15.3: whatever scenes and bytes are made of these bytes.
func FuzzAll(f *testing.F) {
	f.Add([]byte{})
	f.Add([]byte("\x03\x00\x01\x00\x02\x01\x01\x00\x01\x02\x03\x01\x00\x02\x01\x05\x02\x01"))
	f.Add([]byte("\x08\x05\x03\x02\x01\x00\x03\x01\x05\x04\x02\x01\x00\x02\x01\x03\x02\x01\x01\x00\x05"))
	f.Fuzz(func(t *testing.T, b []byte) {
		at := 0
		checkSource(t, source{func(n int) int {
			at++
			if at > len(b) {
				return 0
			}
			return int(b[at-1]) % n
		}})
	})
}

// P15.2, P15.3: whatever the bytes are, as a file, and as payloads under right sums.
func FuzzLoad(f *testing.F) {
	for _, x := range spellings() {
		m := limit.Measure(x.s)
		f.Add(whole(x.texts, x.nodes), x.texts, x.nodes, 999, m.Nodes, m.Edges, m.Depth, m.Text)
	}
	f.Fuzz(func(t *testing.T, b, texts, nodes string, bytes, count, edges, depth, text int) {
		l := api.Limits{Bytes: bytes, Nodes: count, Edges: edges, Depth: depth, Text: text}
		checkBytes(t, b, l)
		checkBytes(t, whole(texts, nodes), l)
	})
}

// P15.2: what is answered is new memory, and no two lists of it share any.
func TestLoadAnswersNewMemory(t *testing.T) {
	for _, x := range spellings() {
		b, s := whole(x.texts, x.nodes), ordered(x.s)
		first, _ := Load(b, widest())
		again, _ := Load(b, widest())
		for at, n := range first.Nodes {
			if !sameNode(n, s.Nodes[at]) {
				t.Errorf("node %d of %s: it became %v, as another one was changed", at, brief(s), n)
			}
			spoil(n)
		}
		clear(first.Nodes[:cap(first.Nodes)])
		if !same(again, s) {
			t.Errorf("%.300x: it became %s, as another answer was changed", b, brief(again))
		}
	}
}

// P15.2: counts and lengths that say more than there is take no room, and neither do bytes beyond the limit.
func TestLoadMakesNoRoomByACount(t *testing.T) {
	many := string(binary.AppendUvarint(nil, most))
	long := "DIOR\x02" + section(1, strings.Repeat("x", 1<<20))
	var before, after runtime.MemStats
	runtime.ReadMemStats(&before)
	for range 100 {
		checkWrong(t, whole(many, ""), widest(), api.ErrCut)
		checkWrong(t, whole("\x01"+many, ""), widest(), api.ErrCut)
		checkWrong(t, whole("\x00", many), widest(), api.ErrCut)
		checkWrong(t, whole("\x00", many+"\x06\x00"+many), widest(), api.ErrCut)
		checkWrong(t, "DIOR\x02\x01"+many, widest(), api.ErrCut)
		checkWrong(t, long, api.Limits{Bytes: 1 << 20}, api.ErrLimit)
	}
	runtime.ReadMemStats(&after)
	if took := after.TotalAlloc - before.TotalAlloc; took > 4<<20 {
		t.Errorf("%d bytes of room", took)
	}
}

// checkGreat wants a great canonical scene to be saved and loaded within its measure, and to be refused within less.
func checkGreat(t *testing.T, s api.Scene) {
	t.Helper()
	b, e := Save(s, widest())
	if e != api.OK {
		t.Fatalf("Save: %d", e)
	}
	m := measure(s, b)
	if got, e := Load(b, m); e != api.OK || !same(got, s) {
		t.Errorf("Load: %d", e)
	}
	if again, e := Save(s, m); e != api.OK || again != b {
		t.Errorf("Save again: %d", e)
	}
	for _, part := range parts(&m) {
		if *part > 0 {
			*part--
			if got, e := Load(b, m); e != api.ErrLimit || len(got.Nodes) > 0 || got.Root != 0 {
				t.Errorf("Load within less: %d", e)
			}
			if got, e := Save(s, m); e != api.ErrLimit || got != "" {
				t.Errorf("Save within less: %d", e)
			}
			*part++
		}
	}
}

// P15.1 to P15.3: very many nodes, ways down and levels.
func TestGreatScenes(t *testing.T) {
	const count = 1 << 15
	deep, doubled, wide := []api.Node{ball(0, "a")}, []api.Node{ball(0, "a")}, []api.Node{}
	var kids []int
	for at := range count {
		deep = append(deep, move(0, 0, 0, at))
		doubled = append(doubled, choice(0, at, at))
		wide = append(wide, ball(int64(at), strings.Repeat("x", at%100)+string(rune('a'+at%26))))
		kids = append(kids, at)
	}
	checkGreat(t, made(deep...))
	checkGreat(t, made(doubled...))
	checkGreat(t, made(append(wide, group("all", kids...))...))
}

// P15.1, P15.2: a file of as many bytes as any limit lets it have, and ones of more: also where a payload is too long for a section.
func TestTheLongestFiles(t *testing.T) {
	// A group's file has these beside its name.
	const beside = 5 + 1 + 4 + 1 + 4 + 4 + 1 + 1 + 4 + 4
	longest := made(group(strings.Repeat("n", most-beside)))
	b, e := Save(longest, widest())
	if e != api.OK || len(b) != most {
		t.Fatalf("Save: %d bytes, %d", len(b), e)
	}
	if got, e := Load(b, widest()); e != api.OK || !same(got, longest) {
		t.Errorf("Load: %d", e)
	}
	name := strings.Repeat("n", most+1)
	for _, n := range []int{most - beside + 1, most - 5, most - 4, most, most + 1} {
		if b, e := Save(made(group(name[:n])), widest()); e != api.ErrLimit || b != "" {
			t.Errorf("Save of %d bytes: %d bytes, %d", n, len(b), e)
		}
	}
	// The other section is too long: so far ahead stands the kid that its number takes three bytes.
	far := []api.Node{choice(0)}
	for at := range 1 << 14 {
		far = append(far, choice(0, at))
	}
	kids := append([]int{1 << 14}, slices.Repeat([]int{0}, most/3)...)
	if b, e := Save(made(append(far, choice(0, kids...))...), widest()); e != api.ErrLimit || b != "" {
		t.Errorf("Save of many kids: %d bytes, %d", len(b), e)
	}
}
