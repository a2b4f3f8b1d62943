package oldfile

import (
	"encoding/binary"
	"fmt"
	"hash/crc32"
	"math"
	"math/rand"
	"runtime"
	"slices"
	"strings"
	"testing"
	"unicode/utf8"

	"diorama/api"
	"diorama/limit"
	"diorama/old"
)

// most is 2^24, the greatest number that a limit may be, by the chapters' words.
const most = 16777216

// widest are the greatest limits that may be.
func widest() api.Limits {
	return api.Limits{Bytes: most, Nodes: most, Edges: most, Depth: most, Text: most}
}

// parts are the five of limits, to be changed one by one.
func parts(l *api.Limits) []*int {
	return []*int{&l.Bytes, &l.Nodes, &l.Edges, &l.Depth, &l.Text}
}

// measure is how much a scene has, and its file.
func measure(s api.Scene, b string) api.Limits {
	l := limit.Measure(s)
	l.Bytes = len(b)
	return l
}

// made is nodes, of which the first one is the root.
func made(nodes ...api.Node) api.Scene { return api.Scene{Nodes: nodes} }

func group(kids ...int) api.Node { return api.Node{Kind: api.OGroup, Kids: kids} }

func trans(x, y, z, size int64, kids ...int) api.Node {
	return api.Node{Kind: api.OTrans, Ints: []int64{x, y, z, size}, Kids: kids}
}

func cube(size int64, material string) api.Node {
	return api.Node{Kind: api.OCube, Ints: []int64{size}, Texts: []string{material}}
}

func sphere(size int64, material string) api.Node {
	return api.Node{Kind: api.OSphere, Ints: []int64{size}, Texts: []string{material}}
}

func text(s string) api.Node { return api.Node{Kind: api.OText, Texts: []string{s}} }

func lamp(n int64) api.Node { return api.Node{Kind: api.OLamp, Ints: []int64{n}} }

func sameNode(a, b api.Node) bool {
	return a.Kind == b.Kind && slices.Equal(a.Ints, b.Ints) && slices.Equal(a.Texts, b.Texts) && slices.Equal(a.Kids, b.Kids)
}

func same(a, b api.Scene) bool {
	return a.Root == b.Root && slices.EqualFunc(a.Nodes, b.Nodes, sameNode)
}

// brief is a scene as far as a message has room for it.
func brief(s api.Scene) string {
	text := fmt.Sprint(s)
	return text[:min(len(text), 300)]
}

// section is a section's bytes, by the words of chapter 4 and the library's means.
func section(id byte, payload string) string {
	b := binary.AppendUvarint([]byte{id}, uint64(len(payload)))
	b = append(b, payload...)
	return string(binary.LittleEndian.AppendUint32(b, crc32.ChecksumIEEE([]byte(payload))))
}

// whole is a file of this payload, by the chapter's words.
func whole(payload string) string { return "DIOR\x01" + section(1, payload) }

// payload is a scene's, by the chapter's words and the library's means. The scene may have faults.
func payload(s api.Scene) string {
	b := binary.AppendUvarint(nil, uint64(len(s.Nodes)))
	for _, n := range s.Nodes {
		b = binary.AppendUvarint(b, uint64(n.Kind))
		for _, x := range n.Ints {
			b = binary.AppendVarint(b, x)
		}
		for _, s := range n.Texts {
			b = binary.AppendUvarint(b, uint64(len(s)))
			b = append(b, s...)
		}
		b = binary.AppendUvarint(b, uint64(len(n.Kids)))
		for _, kid := range n.Kids {
			b = binary.AppendUvarint(b, uint64(kid))
		}
	}
	return string(b)
}

// isForward tells whether a scene that is valid is forward, by the words of chapter 16.
func isForward(s api.Scene) bool {
	ok := s.Root == 0
	for at, n := range s.Nodes {
		ok = ok && !slices.ContainsFunc(n.Kids, func(kid int) bool { return kid <= at })
	}
	return ok
}

// plainSave is Save by the chapter's words.
func plainSave(s api.Scene, l api.Limits) (string, api.Errno) {
	if e, _ := old.Valid(s, l); e != api.OK {
		return "", e
	}
	if !isForward(s) {
		return "", api.ErrOrder
	}
	b := whole(payload(s))
	if len(b) > l.Bytes {
		return "", api.ErrLimit
	}
	return b, api.OK
}

// reader reads by the words of chapters 1 and 2; it keeps its first error.
type reader struct {
	b string
	e api.Errno
}

func (r *reader) fail(wrong bool, e api.Errno) {
	if wrong && r.e == api.OK {
		r.e = e
	}
}

// number reads one of at most so much, and tells how many bytes it takes, but doesn't go behind it.
func (r *reader) number(top uint64) (uint64, int) {
	var n uint64
	for i := range len(r.b) {
		c := r.b[i]
		if i == 9 && c > 1 || i > 0 && c == 0 {
			r.fail(true, api.ErrLong)
			return 0, 0
		}
		n += uint64(c&127) << (7 * i)
		if c < 128 {
			r.fail(n > top, api.ErrLimit)
			return n, i + 1
		}
	}
	r.fail(true, api.ErrCut)
	return 0, 0
}

func (r *reader) uint(top int) int {
	n, size := r.number(uint64(top))
	if r.e != api.OK {
		return 0
	}
	r.b = r.b[size:]
	return int(n)
}

func (r *reader) int() int64 {
	n, size := r.number(math.MaxUint64)
	if r.e != api.OK {
		return 0
	}
	r.b = r.b[size:]
	if n%2 == 1 {
		return -int64(n/2) - 1
	}
	return int64(n / 2)
}

func (r *reader) bytes(n int) string {
	r.fail(n > len(r.b), api.ErrCut)
	if r.e != api.OK {
		return ""
	}
	s := r.b[:n]
	r.b = r.b[n:]
	return s
}

// form is what a kind of version 1 has, by the words of chapter 7.
type form struct {
	ints, texts, least, most int
	low, high                int64
}

func forms(kind int) (form, bool) {
	switch kind {
	case 1:
		return form{most: math.MaxInt}, true
	case 2:
		return form{ints: 4, least: 1, most: 1, low: -1 << 47, high: 1 << 47}, true
	case 3, 4:
		return form{ints: 1, texts: 1, high: 1 << 47}, true
	case 5:
		return form{texts: 1}, true
	case 6:
		return form{ints: 1, high: 255}, true
	}
	return form{}, false
}

// node reads the node of a place, one of so many.
func (r *reader) node(at, count, edges, longest int) api.Node {
	n := api.Node{Kind: r.uint(most)}
	f, ok := forms(n.Kind)
	r.fail(!ok, api.ErrKind)
	for range f.ints {
		x := r.int()
		r.fail(x < f.low || x > f.high, api.ErrField)
		n.Ints = append(n.Ints, x)
	}
	for range f.texts {
		s := r.bytes(r.uint(longest))
		r.fail(!utf8.ValidString(s), api.ErrText)
		n.Texts = append(n.Texts, s)
	}
	kids := r.uint(edges)
	r.fail(kids < f.least || kids > f.most, api.ErrKids)
	for len(n.Kids) < kids && r.e == api.OK {
		kid := r.uint(most)
		r.fail(kid <= at || kid >= count, api.ErrRef)
		n.Kids = append(n.Kids, kid)
	}
	return n
}

// plainScene reads a payload by the chapter's words.
func plainScene(b string, l api.Limits) (api.Scene, api.Errno) {
	r := &reader{b: b}
	count, edges := r.uint(l.Nodes), l.Edges
	r.fail(count == 0, api.ErrRef)
	var s api.Scene
	for at := 0; at < count && r.e == api.OK; at++ {
		n := r.node(at, count, edges, l.Text)
		edges -= len(n.Kids)
		s.Nodes = append(s.Nodes, n)
	}
	r.fail(len(r.b) > 0, api.ErrMore)
	if r.e != api.OK {
		return api.Scene{}, r.e
	}
	if e := plainLinks(s, l); e != api.OK {
		return api.Scene{}, e
	}
	return s, api.OK
}

// plainLinks is what is wrong with how nodes lead to kids behind them, or with the measure.
func plainLinks(s api.Scene, l api.Limits) api.Errno {
	level, deepest, edges := make([]int, len(s.Nodes)), 0, 0
	level[0] = 1
	for at, n := range s.Nodes {
		// What leads to a node stands ahead of it, so that its level is known here.
		if level[at] == 0 {
			return api.ErrLoose
		}
		deepest = max(deepest, level[at])
		edges += len(n.Kids)
		for _, kid := range n.Kids {
			level[kid] = max(level[kid], level[at]+1)
		}
	}
	if len(s.Nodes) > l.Nodes || edges > l.Edges || deepest > l.Depth || textBytes(s) > l.Text {
		return api.ErrLimit
	}
	return api.OK
}

// textBytes are those of all texts, each text once.
func textBytes(s api.Scene) int {
	var l []string
	for _, n := range s.Nodes {
		l = append(l, n.Texts...)
	}
	slices.Sort(l)
	return len(strings.Join(slices.Compact(l), ""))
}

// part is a section as plainSections reads it.
type part struct {
	id      byte
	payload string
}

// plainSections are a file's version and sections, by the words of chapter 4.
func plainSections(b string) (byte, []part, api.Errno) {
	switch {
	case !strings.HasPrefix(b, "DIOR"):
		return 0, nil, api.ErrMagic
	case len(b) == 4:
		return 0, nil, api.ErrCut
	case b[4] == 0:
		return 0, nil, api.ErrVersion
	}
	var l []part
	r := &reader{b: b[5:]}
	for len(r.b) > 0 && r.e == api.OK {
		r.fail(len(l) == 8, api.ErrMore)
		r.fail(r.b[0] == 0, api.ErrForm)
		x := part{id: r.b[0]}
		r.b = r.b[1:]
		x.payload = r.bytes(r.uint(most))
		sum := r.bytes(4)
		r.fail(sum != string(binary.LittleEndian.AppendUint32(nil, crc32.ChecksumIEEE([]byte(x.payload)))), api.ErrCrc)
		l = append(l, x)
	}
	return b[4], l, r.e
}

// plainLoad is Load by the chapter's words.
func plainLoad(b string, l api.Limits) (api.Scene, api.Errno) {
	for _, n := range parts(&l) {
		if *n < 0 || *n > most {
			return api.Scene{}, api.ErrArg
		}
	}
	if len(b) > l.Bytes {
		return api.Scene{}, api.ErrLimit
	}
	version, sections, e := plainSections(b)
	switch {
	case e != api.OK:
		return api.Scene{}, e
	case version != 1:
		return api.Scene{}, api.ErrVersion
	case len(sections) != 1 || sections[0].id != 1:
		return api.Scene{}, api.ErrForm
	}
	return plainScene(sections[0].payload, l)
}

// mark is what lies in the spare room behind the lists that marked makes.
const mark = 77

// roomy is a list with two marks in the spare room behind it.
func roomy[T any](l []T, m T) []T {
	return append(append(make([]T, 0, len(l)+2), l...), m, m)[:len(l)]
}

// markedRoom tells whether a list has still its marks behind it.
func markedRoom[T comparable](l []T, m T) bool {
	return slices.Equal(l[len(l):cap(l)][:2], []T{m, m})
}

// marked is a scene like s, with marks in the spare room behind all its lists.
func marked(s api.Scene) api.Scene {
	l := make([]api.Node, 0, len(s.Nodes)+1)
	for _, n := range s.Nodes {
		l = append(l, api.Node{Kind: n.Kind, Ints: roomy(n.Ints, mark), Texts: roomy(n.Texts, "mark"), Kids: roomy(n.Kids, mark)})
	}
	l[:cap(l)][len(l)].Kind = mark
	return api.Scene{Nodes: l, Root: s.Root}
}

// checkMarked wants a scene that marked made of s to be still as it was, its spare room too.
func checkMarked(t *testing.T, x, s api.Scene) {
	t.Helper()
	ok := same(x, s) && sameNode(x.Nodes[:len(x.Nodes)+1][len(x.Nodes)], api.Node{Kind: mark})
	for _, n := range x.Nodes {
		ok = ok && markedRoom(n.Ints, mark) && markedRoom(n.Texts, "mark") && markedRoom(n.Kids, mark)
	}
	if !ok {
		t.Errorf("Save: what was handed in became %s, from %s", brief(x), brief(s))
	}
}

// fill lays x wherever a list has room.
func fill[T any](l []T, x T) {
	for i := range l[:cap(l)] {
		l[:cap(l)][i] = x
	}
}

// spoil changes all that a node's lists hold, their spare room too.
func spoil(n api.Node) {
	fill(n.Ints, -99)
	fill(n.Texts, "spoilt")
	fill(n.Kids, -99)
}

// checkSave wants Save to tell this, whenever it is asked, and the scene to stay as it is.
func checkSave(t *testing.T, s api.Scene, l api.Limits, b string, e api.Errno) {
	t.Helper()
	x := marked(s)
	for range 2 {
		if got, gotE := Save(x, l); got != b || gotE != e {
			t.Errorf("Save(%s, %v): %.300x, %d, not %.300x, %d", brief(s), l, got, gotE, b, e)
		}
	}
	checkMarked(t, x, s)
}

// checkLoad wants Load to tell this, whenever it is asked.
func checkLoad(t *testing.T, b string, l api.Limits, s api.Scene, e api.Errno) {
	t.Helper()
	for range 2 {
		got, gotE := Load(b, l)
		if gotE != e || !same(got, s) {
			t.Errorf("Load(%.300x, %v): %s, %d, not %s, %d", b, l, brief(got), gotE, brief(s), e)
		}
		for _, n := range got.Nodes {
			spoil(n)
		}
	}
}

// checkWrong wants Load to refuse the bytes.
func checkWrong(t *testing.T, b string, l api.Limits, e api.Errno) {
	t.Helper()
	checkLoad(t, b, l, api.Scene{}, e)
}

// checkScene holds Save against the promises' words, and what is saved against its scene; it tells what is wrong with it.
func checkScene(t *testing.T, s api.Scene, l api.Limits) api.Errno {
	t.Helper()
	b, e := plainSave(s, l)
	checkSave(t, s, l, b, e)
	if e == api.OK {
		checkLoad(t, b, l, s, api.OK)
	}
	return e
}

// checkBytes holds Load against the promises' words, and what is loaded against its file; it tells what is wrong with it.
func checkBytes(t *testing.T, b string, l api.Limits) api.Errno {
	t.Helper()
	s, e := plainLoad(b, l)
	checkLoad(t, b, l, s, e)
	if e == api.OK {
		checkSave(t, s, l, b, api.OK)
		if wrong, at := old.Valid(s, l); wrong != api.OK || !old.Is(s) {
			t.Errorf("Load(%.300x, %v): %s isn't valid, or not forward: %d at %d", b, l, brief(s), wrong, at)
		}
	}
	return e
}

// spelling is a scene, and the payload of its file.
type spelling struct {
	s       api.Scene
	payload string
}

// spellings are forward scenes with nodes of each kind, and what stands for them by the chapter's words.
func spellings() []spelling {
	return []spelling{
		{made(text("a")), "\x01\x05\x01a\x00"},
		{made(text("")), "\x01\x05\x00\x00"},
		{made(lamp(9)), "\x01\x06\x12\x00"},
		{made(lamp(0)), "\x01\x06\x00\x00"},
		{made(lamp(255)), "\x01\x06\xfe\x03\x00"},
		{made(group()), "\x01\x01\x00"},
		{made(cube(1, "oak")), "\x01\x03\x02\x03oak\x00"},
		{made(sphere(65536, "\u20ac")), "\x01\x04\x80\x80\x08\x03\u20ac\x00"},
		{made(group(1), lamp(9)), "\x02\x01\x01\x01\x06\x12\x00"},
		{made(trans(-1, 0, 1, 65536, 1), lamp(9)), "\x02\x02\x01\x00\x02\x80\x80\x08\x01\x01\x06\x12\x00"},
		{made(trans(1<<47, -1<<47, 64, -65, 1), text("e\u0301\x00")), "\x02\x02\x80\x80\x80\x80\x80\x80\x40\xff\xff\xff\xff\xff\xff\x3f\x80\x01\x81\x01\x01\x01\x05\x04e\u0301\x00\x00"},
		// Two that are alike, and one twice.
		{made(group(1, 2), cube(1, "oak"), cube(1, "oak")), "\x03\x01\x02\x01\x02\x03\x02\x03oak\x00\x03\x02\x03oak\x00"},
		{made(group(1, 1), cube(1, "oak")), "\x02\x01\x02\x01\x01\x03\x02\x03oak\x00"},
		// Each of these two has the order that it is handed in by; only the other one is what old.Flat tells.
		{made(group(1, 2), lamp(1), lamp(2)), "\x03\x01\x02\x01\x02\x06\x02\x00\x06\x04\x00"},
		{made(group(2, 1), lamp(2), lamp(1)), "\x03\x01\x02\x02\x01\x06\x04\x00\x06\x02\x00"},
		// Kids that stand far behind, and one that is met on two ways down.
		{made(group(3, 1), trans(0, 0, 0, 0, 2), group(3, 3), sphere(0, "")), "\x04\x01\x02\x03\x01\x02\x00\x00\x00\x00\x01\x02\x01\x02\x03\x03\x04\x00\x00\x00"},
		// A length, a count, places and a payload's length that take two bytes.
		{made(text(strings.Repeat("n", 200))), "\x01\x05\xc8\x01" + strings.Repeat("n", 200) + "\x00"},
		{long(200), "\xc9\x01\x01\xc8\x01" + places(200) + strings.Repeat("\x06\x00\x00", 200)},
	}
}

// long is a group of so many lamps.
func long(count int) api.Scene {
	s := made(group())
	for at := range count {
		s.Nodes[0].Kids = append(s.Nodes[0].Kids, at+1)
		s.Nodes = append(s.Nodes, lamp(0))
	}
	return s
}

// places are the bytes of the places from 1 up to a last one.
func places(last int) string {
	var b []byte
	for n := 1; n <= last; n++ {
		b = binary.AppendUvarint(b, uint64(n))
	}
	return string(b)
}

// P17.1, P17.2: the chapter's example, byte by byte, in its file.
func TestExample(t *testing.T) {
	b := "\x44\x49\x4f\x52\x01" + "\x01\x05" + "\x01\x05\x01\x61\x00" + "\x4e\x1e\xb8\xb1"
	checkSave(t, made(text("a")), widest(), b, api.OK)
	checkLoad(t, b, widest(), made(text("a")), api.OK)
}

// P17.1
func TestSaveTellsTheFile(t *testing.T) {
	for _, x := range spellings() {
		b := whole(x.payload)
		checkSave(t, x.s, widest(), b, api.OK)
		checkSave(t, x.s, measure(x.s, b), b, api.OK)
	}
}

// wrongScene is a scene, and why it isn't saved.
type wrongScene struct {
	s api.Scene
	e api.Errno
}

// wrongScenes are those that old.Valid refuses, whatever the limits are.
func wrongScenes() []wrongScene {
	return []wrongScene{
		{api.Scene{}, api.ErrRef},
		{api.Scene{Nodes: []api.Node{lamp(9)}, Root: 1}, api.ErrRef},
		{api.Scene{Nodes: []api.Node{lamp(9)}, Root: -1}, api.ErrRef},
		{made(group(1, 2), lamp(9)), api.ErrRef},
		{made(group(1, math.MinInt), lamp(9)), api.ErrRef},
		{made(group(0)), api.ErrCycle},
		{made(group(1), group(0)), api.ErrCycle},
		{made(lamp(9), lamp(9)), api.ErrLoose},
		{made(api.Node{}), api.ErrKind},
		{made(group(1), api.Node{Kind: 7}), api.ErrKind},
		{made(api.Node{Kind: -1}), api.ErrKind},
		{made(lamp(256)), api.ErrField},
		{made(lamp(-1)), api.ErrField},
		{made(cube(-1, "a")), api.ErrField},
		{made(sphere(1<<47+1, "a")), api.ErrField},
		{made(trans(0, 0, 0, -1<<47-1, 1), lamp(9)), api.ErrField},
		{made(api.Node{Kind: api.OTrans, Ints: []int64{1, 2, 3}, Kids: []int{1}}, lamp(9)), api.ErrField},
		{made(api.Node{Kind: api.OText}), api.ErrText},
		{made(api.Node{Kind: api.OGroup, Texts: []string{"name"}}), api.ErrText},
		{made(text("\xc3")), api.ErrText},
		{made(trans(0, 0, 0, 0)), api.ErrKids},
		{made(trans(0, 0, 0, 0, 1, 1), lamp(9)), api.ErrKids},
		{made(api.Node{Kind: api.OLamp, Ints: []int64{9}, Kids: []int{1}}, lamp(9)), api.ErrKids},
		// Of several the one that old.Valid names first.
		{made(text("\xc3"), api.Node{Kind: 7}), api.ErrText},
		{made(group(9), lamp(-1)), api.ErrField},
		{made(group(0), group(9)), api.ErrRef},
	}
}

// P17.1
func TestSaveRefusesScenes(t *testing.T) {
	for _, x := range wrongScenes() {
		checkSave(t, x.s, widest(), "", x.e)
		// What is wrong with the scene is told ahead of limits that it is beyond.
		checkSave(t, x.s, api.Limits{}, "", x.e)
	}
}

// P17.1: valid scenes that aren't forward; ErrOrder stands behind old.Valid's errors, and ahead of the file's length.
func TestSaveRefusesOrders(t *testing.T) {
	for _, s := range []api.Scene{
		{Nodes: []api.Node{lamp(9), group(0)}, Root: 1},
		{Nodes: []api.Node{lamp(9), lamp(9), group(0, 1)}, Root: 2},
		{Nodes: []api.Node{lamp(9), group(0, 2), lamp(9)}, Root: 1},
		made(group(2, 1), lamp(9), group(1)),
		made(group(1, 3), lamp(9), text("a"), group(1, 2)),
		made(group(2), lamp(9), trans(0, 0, 0, 0, 1)),
	} {
		l := limit.Measure(s)
		checkSave(t, s, widest(), "", api.ErrOrder)
		checkSave(t, s, l, "", api.ErrOrder)
		for i := 1; i < 4; i++ {
			less := l
			*parts(&less)[i]--
			checkSave(t, s, less, "", api.ErrLimit)
		}
		f, _ := old.Flat(s)
		checkSave(t, f, l, "", api.ErrLimit)
		checkSave(t, f, widest(), whole(payload(f)), api.OK)
	}
}

// wrongLimits are limits that mayn't be, each by one of them.
func wrongLimits() []api.Limits {
	var out []api.Limits
	for i := range 5 {
		for _, n := range []int{-1, most + 1, math.MaxInt, math.MinInt, 1 << 32} {
			l := widest()
			*parts(&l)[i] = n
			out = append(out, l)
		}
	}
	return out
}

// P17.1, P17.2: limits that mayn't be, ahead of all that is wrong with the scene, or with the bytes.
func TestLimitsThatMaynotBe(t *testing.T) {
	for _, l := range wrongLimits() {
		for _, x := range spellings() {
			checkSave(t, x.s, l, "", api.ErrArg)
			checkWrong(t, whole(x.payload), l, api.ErrArg)
		}
		for _, x := range wrongScenes() {
			checkSave(t, x.s, l, "", api.ErrArg)
		}
		checkSave(t, api.Scene{Nodes: []api.Node{lamp(9), group(0)}, Root: 1}, l, "", api.ErrArg)
		for _, b := range []string{"", "DIOP", "DIOR", "DIOR\x00", "DIOR\x01", "DIOR\x02", whole(""), whole("\x00")} {
			checkWrong(t, b, l, api.ErrArg)
		}
	}
}

// P17.1, P17.2: each limit, the bytes' among them, at what the scene and its file have, and one below it.
func TestWithinLimits(t *testing.T) {
	for _, x := range spellings() {
		b := whole(x.payload)
		m := measure(x.s, b)
		for i := range 5 {
			for _, l := range []api.Limits{m, widest()} {
				*parts(&l)[i] = *parts(&m)[i]
				checkSave(t, x.s, l, b, api.OK)
				checkLoad(t, b, l, x.s, api.OK)
				*parts(&l)[i]--
				e := api.ErrLimit
				if *parts(&l)[i] < 0 {
					e = api.ErrArg
				}
				checkSave(t, x.s, l, "", e)
				checkWrong(t, b, l, e)
			}
		}
	}
	checkSave(t, made(lamp(9)), api.Limits{}, "", api.ErrLimit)
	checkWrong(t, whole(payload(made(lamp(9)))), api.Limits{}, api.ErrLimit)
}

// P17.1, P17.2: a text that several nodes have is within the limit once, and stands in the file as often as they do.
func TestTextsOfSeveralNodes(t *testing.T) {
	s := made(group(1, 2, 3, 4), text("wood"), cube(1, "wood"), sphere(1, "wood"), text("oak"))
	b := whole("\x05\x01\x04\x01\x02\x03\x04\x05\x04wood\x00\x03\x02\x04wood\x00\x04\x02\x04wood\x00\x05\x03oak\x00")
	l := measure(s, b)
	if l.Text != 7 {
		t.Errorf("%v", l)
	}
	checkSave(t, s, l, b, api.OK)
	checkLoad(t, b, l, s, api.OK)
	l.Text = 6
	checkSave(t, s, l, "", api.ErrLimit)
	checkWrong(t, b, l, api.ErrLimit)
	l.Text = 3
	checkWrong(t, b, l, api.ErrLimit)
}

// P17.2
func TestLoadTellsTheScene(t *testing.T) {
	for _, x := range spellings() {
		b := whole(x.payload)
		checkLoad(t, b, widest(), x.s, api.OK)
		checkLoad(t, b, measure(x.s, b), x.s, api.OK)
	}
}

// P17.2: more bytes than the limit lets there be, ahead of all that is wrong with them.
func TestLoadRefusesManyBytes(t *testing.T) {
	for _, b := range []string{"D", "DIOP", "DIOR", "DIOR\x00", "DIOR\x01", "DIOR\x02", "DIOR\x01\x00", whole(""), whole("\x01\x05\x01\xff\x00")} {
		l := widest()
		_, e := plainLoad(b, l)
		l.Bytes = len(b)
		checkWrong(t, b, l, e)
		for _, n := range []int{0, len(b) / 2, len(b) - 1} {
			l.Bytes = n
			checkWrong(t, b, l, api.ErrLimit)
		}
	}
	checkWrong(t, "", api.Limits{}, api.ErrMagic)
	checkWrong(t, strings.Repeat("x", most), widest(), api.ErrMagic)
	checkWrong(t, strings.Repeat("x", most+1), widest(), api.ErrLimit)
}

// P17.2: what is wrong with the file's form is told ahead of its version, and of what its sections are.
func TestLoadRefusesFrames(t *testing.T) {
	b := whole(payload(made(lamp(9))))
	empty := section(1, "")
	for _, x := range []struct {
		b string
		e api.Errno
	}{
		{"", api.ErrMagic},
		{"DIO", api.ErrMagic},
		{"dior" + b[4:], api.ErrMagic},
		{"DIOP" + b[4:], api.ErrMagic},
		{"\x00" + b, api.ErrMagic},
		{"DIOP", api.ErrMagic},
		{"DIOR", api.ErrCut},
		{"DIOR\x00", api.ErrVersion},
		{"DIOR\x00" + b[5:], api.ErrVersion},
		{"DIOR\x00\x00", api.ErrVersion},
		{"DIOR\x01\x00", api.ErrForm},
		{"DIOR\x02\x01", api.ErrCut},
		{"DIOR\x01" + strings.Repeat(empty, 9), api.ErrMore},
		{"DIOR\x01" + strings.Repeat(empty, 8) + "\x00", api.ErrMore},
		{"DIOR\x03" + strings.Repeat(empty, 9), api.ErrMore},
		{"DIOR\x01\x01\x84\x00" + b[7:], api.ErrLong},
		{"DIOR\x01\x01" + strings.Repeat("\xff", 10), api.ErrLong},
		{"DIOR\x01\x01" + strings.Repeat("\xff", 9), api.ErrCut},
		{"DIOR\x01\x01" + strings.Repeat("\xff", 9) + "\x01", api.ErrLimit},
		{"DIOR\x01\x01\x81\x80\x80\x08", api.ErrLimit},
		{"DIOR\x02\x01\x81\x80\x80\x08", api.ErrLimit},
		{"DIOR\x01\x01\x80\x80\x80\x08", api.ErrCut},
		{b + "\x01", api.ErrCut},
		{b + "\x00", api.ErrForm},
		{b + b, api.ErrCut}, // D is an Id, and I a length: 73
		{b[:len(b)-1], api.ErrCut},
		{turned(b, len(b)-1, 1), api.ErrCrc},
		{"DIOR\x02" + turned(b, len(b)-1, 1)[5:], api.ErrCrc},
		{"DIOR\x01" + section(2, "") + turned(section(2, ""), 5, 1), api.ErrCrc},
	} {
		checkWrong(t, x.b, widest(), x.e)
	}
}

// P17.2: another version, ahead of what its sections are.
func TestLoadRefusesVersions(t *testing.T) {
	b := whole(payload(made(lamp(9))))
	for version := 1; version < 256; version++ {
		head := "DIOR" + string([]byte{byte(version)})
		if version == 1 {
			checkLoad(t, head+b[5:], widest(), made(lamp(9)), api.OK)
			checkWrong(t, head, widest(), api.ErrForm)
			continue
		}
		for _, rest := range []string{"", b[5:], section(1, "") + section(2, ""), section(1, "\xff"), section(1, "\x01\x01a") + section(2, "\x01\x04\x02\x00\x00")} {
			checkWrong(t, head+rest, widest(), api.ErrVersion)
		}
	}
}

// P17.2: other sections than the one, ahead of what is in them.
func TestLoadRefusesSections(t *testing.T) {
	p := payload(made(lamp(9)))
	one := section(1, p)
	for _, rest := range []string{
		"", one + one, section(2, p), section(255, p), one + section(2, p), section(2, p) + one, one + section(1, ""), section(1, "") + one, one + section(2, ""),
		section(3, "") + one, strings.Repeat(one, 8), one + strings.Repeat(section(9, ""), 7),
		section(2, "\xff"), section(1, "\xff") + section(1, "\xff"), section(1, "\x01\x01a") + section(2, "\x01\x04\x02\x00\x00"),
	} {
		checkWrong(t, "DIOR\x01"+rest, widest(), api.ErrForm)
	}
	checkLoad(t, "DIOR\x01"+one, widest(), made(lamp(9)), api.OK)
}

// wrongPayload is a payload, and why it isn't loaded within narrow limits.
type wrongPayload struct {
	payload string
	e       api.Errno
}

func narrow() api.Limits {
	return api.Limits{Bytes: 1000, Nodes: 4, Edges: 4, Depth: 3, Text: 5}
}

// wrongPayloads are by the promise's turns; several have what it names later, too.
func wrongPayloads() []wrongPayload {
	long, ten := "\x81\x80\x80\x08", strings.Repeat("\xff", 9)
	return []wrongPayload{
		// How many nodes.
		{"", api.ErrCut},
		{"\x80", api.ErrCut},
		{"\x81\x00", api.ErrLong},
		{ten + "\x02", api.ErrLong},
		{ten + "\x01", api.ErrLimit},
		{long, api.ErrLimit},
		{"\x05", api.ErrLimit},
		{"\x05" + strings.Repeat("\x01\x00", 5), api.ErrLimit},
		{"\x00", api.ErrRef},
		{"\x00\x00", api.ErrRef},
		{"\x00\x07", api.ErrRef},
		// A Kind.
		{"\x01", api.ErrCut},
		{"\x01\x86\x00\x12\x00", api.ErrLong},
		{"\x01" + long + "\x00", api.ErrLimit},
		{"\x01\x80\x80\x80\x08", api.ErrKind},
		{"\x01\x00\x00", api.ErrKind},
		{"\x01\x07", api.ErrKind},
		{"\x01\x08\x00", api.ErrKind},
		{"\x01\x81\x02\x00", api.ErrKind},
		{"\x02\x01\x01\x01\x07\xff", api.ErrKind},
		// Numbers.
		{"\x01\x06", api.ErrCut},
		{"\x01\x06\x92\x00\x00", api.ErrLong},
		{"\x01\x06\x01\x00", api.ErrField},
		{"\x01\x06\x80\x04\x00", api.ErrField},
		{"\x01\x06\x80\x04", api.ErrField},
		{"\x01\x06" + ten + "\x01\x00", api.ErrField},
		{"\x01\x03\x01\x01a\x00", api.ErrField},
		{"\x01\x04\x82\x80\x80\x80\x80\x80\x40\x01a\x00", api.ErrField},
		{"\x02\x02\x82\x80\x80\x80\x80\x80\x40\x00\x00\x00\x01\x01\x06\x00\x00", api.ErrField},
		{"\x02\x02\x00\x00\x00\x81\x80\x80\x80\x80\x80\x40\x01\x01\x06\x00\x00", api.ErrField},
		{"\x01\x02\x00\x00\x00", api.ErrCut},
		{"\x01\x02\x00\x00\x00\x80\x00", api.ErrLong},
		// Texts.
		{"\x01\x05", api.ErrCut},
		{"\x01\x05\x02a", api.ErrCut},
		{"\x01\x05\x81\x00a\x00", api.ErrLong},
		{"\x01\x05\x06abcdef\x00", api.ErrLimit},
		{"\x01\x05\x06\xff", api.ErrLimit},
		{"\x01\x05" + long, api.ErrLimit},
		{"\x01\x05\x01\xff\x00", api.ErrText},
		{"\x01\x05\x01\xff", api.ErrText},
		{"\x01\x05\x02\xc0\x80\x00", api.ErrText},
		{"\x01\x05\x03\xed\xa0\x80\x00", api.ErrText},
		{"\x01\x05\x02\xe2\x82\xac\x00", api.ErrText},
		{"\x01\x03\x02\x01\xff\x01\x00", api.ErrText},
		// How many kids.
		{"\x01\x01", api.ErrCut},
		{"\x01\x05\x01a", api.ErrCut},
		{"\x01\x01\x80\x00", api.ErrLong},
		{"\x01\x01\x05", api.ErrLimit},
		{"\x01\x06\x12\x05", api.ErrLimit},
		{"\x01\x06\x12\x01\x01", api.ErrKids},
		{"\x01\x06\x12\x04", api.ErrKids},
		{"\x01\x05\x01a\x01\x01", api.ErrKids},
		{"\x01\x02\x00\x00\x00\x00\x00", api.ErrKids},
		{"\x02\x02\x00\x00\x00\x00\x02\x01\x01\x06\x12\x00", api.ErrKids},
		{"\x02\x01\x04\x01\x01\x01\x01\x01\x01", api.ErrLimit},
		{"\x03\x01\x03\x01\x01\x01\x01\x02\x02\x02\x06\x00\x00", api.ErrLimit},
		{"\x03\x01\x04\x01\x01\x01\x01\x02\x00\x00\x00\x00\x01\x02\x06\x00\x00", api.ErrLimit},
		// Kids.
		{"\x01\x01\x01", api.ErrCut},
		{"\x01\x01\x01\x00", api.ErrRef},
		{"\x01\x01\x01\x01", api.ErrRef},
		{"\x02\x01\x01\x00\x06\x12\x00", api.ErrRef},
		{"\x02\x01\x01\x02\x06\x12\x00", api.ErrRef},
		{"\x02\x01\x01\x80\x80\x80\x08\x06\x12\x00", api.ErrRef},
		{"\x02\x01\x01" + long, api.ErrLimit},
		{"\x02\x01\x01\x81\x00", api.ErrLong},
		{"\x02\x01\x02\x01", api.ErrCut},
		{"\x02\x01\x02\x02", api.ErrRef},
		{"\x02\x01\x02\x01\x02\x07", api.ErrRef},
		{"\x03\x01\x02\x01\x02\x01\x01\x01\x06\x12\x00", api.ErrRef},
		{"\x03\x01\x02\x01\x02\x06\x12\x00\x01\x01\x01", api.ErrRef},
		{"\x03\x01\x02\x01\x02\x06\x12\x00\x01\x01\x02", api.ErrRef},
		{"\x03\x01\x02\x01\x02\x06\x12\x00\x01\x01\x03", api.ErrRef},
		// Bytes that are left, though the nodes are loose, or have more than the limits.
		{"\x01\x06\x12\x00\x00", api.ErrMore},
		{"\x02\x01\x00\x06\x12\x00\xff", api.ErrMore},
		{"\x04\x01\x01\x01\x01\x01\x02\x01\x01\x03\x06\x00\x00\x00", api.ErrMore},
		// How the nodes lead to each other, though they have more than the limits.
		{"\x02\x01\x00\x06\x12\x00", api.ErrLoose},
		{"\x03\x01\x01\x02\x06\x12\x00\x06\x12\x00", api.ErrLoose},
		{"\x03\x01\x01\x01\x05\x03abc\x00\x05\x03def\x00", api.ErrLoose},
		{"\x03\x01\x00\x01\x01\x02\x06\x12\x00", api.ErrLoose},
		// The measure.
		{"\x04\x01\x01\x01\x01\x01\x02\x01\x01\x03\x06\x00\x00", api.ErrLimit},
		{"\x03\x01\x02\x01\x02\x05\x03abc\x00\x05\x03abd\x00", api.ErrLimit},
	}
}

// P17.2: what is wrong with the payload, by the promise's turns; the sum, the version and the sections are held ahead of it.
func TestLoadRefusesPayloads(t *testing.T) {
	for _, x := range wrongPayloads() {
		b := whole(x.payload)
		checkWrong(t, b, narrow(), x.e)
		checkWrong(t, turned(b, len(b)-1, 1), narrow(), api.ErrCrc)
		checkWrong(t, "DIOR\x02"+b[5:], narrow(), api.ErrVersion)
		checkWrong(t, "DIOR\x01"+section(2, x.payload), narrow(), api.ErrForm)
		checkWrong(t, b+section(1, ""), narrow(), api.ErrForm)
		if _, e := plainLoad(b, narrow()); e != x.e {
			t.Errorf("%x: %d by the words, not %d", x.payload, e, x.e)
		}
	}
}

// P17.2: within these limits, and just so.
func TestLoadWithinNarrowLimits(t *testing.T) {
	for _, x := range []spelling{
		{made(text("abcde")), "\x01\x05\x05abcde\x00"},
		{made(group(1, 1, 1, 1), lamp(0)), "\x02\x01\x04\x01\x01\x01\x01\x06\x00\x00"},
		{made(group(1, 1, 1), group(2), lamp(0)), "\x03\x01\x03\x01\x01\x01\x01\x01\x02\x06\x00\x00"},
		{made(group(1, 3), group(2), lamp(0), lamp(1)), "\x04\x01\x02\x01\x03\x01\x01\x02\x06\x00\x00\x06\x02\x00"},
		{made(group(1, 2), text("abc"), text("abc")), "\x03\x01\x02\x01\x02\x05\x03abc\x00\x05\x03abc\x00"},
		{made(group(1, 2), text("abc"), text("de")), "\x03\x01\x02\x01\x02\x05\x03abc\x00\x05\x02de\x00"},
	} {
		checkLoad(t, whole(x.payload), narrow(), x.s, api.OK)
		checkSave(t, x.s, narrow(), whole(x.payload), api.OK)
	}
}

// P17.1 to P17.3: each kind's numbers about the ends of their classes, the first and the last one of them.
func TestNumbersOfEachClass(t *testing.T) {
	widest47 := []int64{-1<<47 - 1, -1 << 47, -1, 0, 1, 1 << 47, 1<<47 + 1, math.MinInt64, math.MaxInt64}
	for _, n := range append(widest47, 127, 128, 254, 255, 256, 1<<32, 1<<32+255) {
		size := n >= 0 && n <= 1<<47
		fixed := n >= -1<<47 && n <= 1<<47
		for _, x := range []struct {
			s  api.Scene
			ok bool
		}{
			{made(lamp(n)), n >= 0 && n <= 255},
			{made(cube(n, "a")), size},
			{made(sphere(n, "a")), size},
			{made(trans(n, 0, 0, 0, 1), lamp(0)), fixed},
			{made(trans(0, n, 0, 0, 1), lamp(0)), fixed},
			{made(trans(0, 0, n, 0, 1), lamp(0)), fixed},
			{made(trans(0, 0, 0, n, 1), lamp(0)), fixed},
		} {
			b := whole(payload(x.s))
			if x.ok {
				checkSave(t, x.s, widest(), b, api.OK)
				checkLoad(t, b, widest(), x.s, api.OK)
				continue
			}
			checkSave(t, x.s, widest(), "", api.ErrField)
			checkWrong(t, b, widest(), api.ErrField)
		}
	}
}

// turned is b with some bits of its byte at a place turned.
func turned(b string, at int, bits byte) string {
	return b[:at] + string([]byte{b[at] ^ bits}) + b[at+1:]
}

// P17.2: each bit of a payload, and bits within 32 on end of it.
func TestChangedPayloadsAreTold(t *testing.T) {
	r := rand.New(rand.NewSource(1))
	for _, x := range spellings() {
		b := whole(x.payload)
		last := (len(b) - 4) * 8
		for bit := last - len(x.payload)*8; bit < last && !t.Failed(); bit++ {
			other := turned(b, bit/8, 1<<(bit%8))
			checkWrong(t, other, widest(), api.ErrCrc)
			for next := bit + 1; next < min(bit+32, last); next++ {
				other = turned(other, next/8, byte(r.Intn(2))<<(next%8))
			}
			checkWrong(t, other, widest(), api.ErrCrc)
		}
	}
}

// wantMet wants each of these errors to be met so often.
func wantMet(t *testing.T, met map[api.Errno]int, count int, l ...api.Errno) {
	t.Helper()
	for _, e := range l {
		if met[e] < count {
			t.Errorf("only %d of %d", met[e], e)
		}
	}
}

// P17.2, P17.3: cut off, and with one bit turned or one byte more, less or another one, anywhere: an error, or it is saved as it was.
func TestLoadOfNearBytes(t *testing.T) {
	met := map[api.Errno]int{}
	for _, x := range spellings() {
		b := whole(x.payload)
		// Of a long row of nodes that are alike all places are alike, too.
		if len(b) > 400 {
			continue
		}
		l := measure(x.s, b)
		l.Bytes++
		for at := range len(b) {
			if cut := checkBytes(t, b[:at], l); cut == api.OK {
				t.Errorf("%x is a file without its end", b)
			}
			for bit := range 8 {
				met[checkBytes(t, turned(b, at, 1<<bit), l)]++
			}
			for _, more := range []string{"", "\x00", "\x01", "\x02", "\x80", "\xff"} {
				met[checkBytes(t, b[:at]+more+b[at:], l)]++
				met[checkBytes(t, b[:at]+more+b[at+1:], l)]++
			}
		}
	}
	wantMet(t, met, 1, api.OK, api.ErrMagic, api.ErrVersion, api.ErrForm, api.ErrCut, api.ErrLong, api.ErrCrc)
}

// P17.2, P17.3: payloads with one byte more, less or another one, and cut off, under right sums.
func TestLoadOfNearPayloads(t *testing.T) {
	met := map[api.Errno]int{}
	for _, x := range spellings() {
		if len(x.payload) > 300 {
			continue
		}
		l := measure(x.s, whole(x.payload))
		l.Bytes++
		for at := range len(x.payload) {
			if e := checkBytes(t, whole(x.payload[:at]), l); e == api.OK {
				t.Errorf("%x is a payload without its end", x.payload)
			}
			for _, b := range []string{"", "\x00", "\x01", "\x02", "\x03", "\x05", "\x06", "\x07", "\x7f", "\x80", "\xff"} {
				met[checkBytes(t, whole(x.payload[:at]+b+x.payload[at:]), l)]++
				met[checkBytes(t, whole(x.payload[:at]+b+x.payload[at+1:]), l)]++
			}
		}
	}
	wantMet(t, met, 5, api.OK, api.ErrCut, api.ErrLong, api.ErrMore, api.ErrKind, api.ErrField, api.ErrText, api.ErrKids, api.ErrRef, api.ErrLoose, api.ErrLimit)
}

// P17.2, P17.3: all payloads of few bytes out of some.
func TestAllShortPayloads(t *testing.T) {
	bytes := []byte{0, 1, 2, 3, 5, 6, 7, 0x80, 0xff}
	l := api.Limits{Bytes: 100, Nodes: 3, Edges: 2, Depth: 2, Text: 2}
	met := map[api.Errno]int{}
	var grow func(b string, left int)
	grow = func(b string, left int) {
		if t.Failed() {
			return
		}
		s, e := plainLoad(whole(b), l)
		if got, gotE := Load(whole(b), l); gotE != e || !same(got, s) {
			t.Errorf("Load of %x: %s, %d, not %s, %d", b, brief(got), gotE, brief(s), e)
		}
		met[e]++
		if e == api.OK {
			checkSave(t, s, l, whole(b), api.OK)
		}
		// Behind an error that more bytes don't mend it stays that one.
		if left > 0 && e == api.ErrCut {
			for _, c := range bytes {
				grow(b+string([]byte{c}), left-1)
			}
		}
	}
	grow("", 8)
	wantMet(t, met, 1, api.OK, api.ErrCut, api.ErrLong, api.ErrKind, api.ErrField, api.ErrText, api.ErrKids, api.ErrRef, api.ErrLoose, api.ErrLimit)
}

// moved is a scene whose node at a place stands at another one, by to. What is no place stays as it is.
func moved(s api.Scene, to []int) api.Scene {
	place := func(at int) int {
		if at < 0 || at >= len(to) {
			return at
		}
		return to[at]
	}
	l := make([]api.Node, len(s.Nodes))
	for at, n := range s.Nodes {
		n.Kids = slices.Clone(n.Kids)
		for i, kid := range n.Kids {
			n.Kids[i] = place(kid)
		}
		l[to[at]] = n
	}
	return api.Scene{Nodes: l, Root: place(s.Root)}
}

// orders are all orders of so many places.
func orders(count int) [][]int {
	if count == 0 {
		return [][]int{nil}
	}
	var l [][]int
	for _, o := range orders(count - 1) {
		for at := range count {
			l = append(l, slices.Insert(slices.Clone(o), at, count-1))
		}
	}
	return l
}

// P17.1, P17.3: of a scene's orders the forward ones are saved, each as its own file, and loaded in that order.
func TestEachForwardOrderHasAFile(t *testing.T) {
	files := map[string]bool{}
	forward := 0
	s := made(group(1, 2, 3), group(4, 5), trans(0, 0, 0, 1, 5), cube(1, "a"), sphere(2, "b"), text("c"))
	for _, to := range orders(len(s.Nodes)) {
		x := moved(s, to)
		if e := checkScene(t, x, widest()); e == api.OK {
			b, _ := Save(x, widest())
			files[b] = true
			forward++
		} else if e != api.ErrOrder {
			t.Errorf("%s: %d", brief(x), e)
		}
	}
	// The root is first, and of the five behind it 4 stands behind 1, and 5 behind 1 and 2: 25 orders.
	if forward != 25 || len(files) != forward {
		t.Errorf("%d forward orders, %d files", forward, len(files))
	}
}

// smallNodes are nodes that have up to two kids of these.
func smallNodes(kids []int) []api.Node {
	l := []api.Node{group(), lamp(0), text("a"), text("\xff"), cube(0, "b")}
	for _, one := range kids {
		l = append(l, group(one), trans(0, 0, 0, 0, one))
		for _, other := range kids {
			l = append(l, group(one, other))
		}
	}
	return l
}

// P17.1 to P17.3: all small scenes, and what stands for them as bytes, though they are wrong; two have one file just if they are the same.
func TestAllSmallScenes(t *testing.T) {
	save, load, files := map[api.Errno]int{}, map[api.Errno]int{}, map[string]bool{}
	look := func(s api.Scene) {
		if t.Failed() {
			return
		}
		e := checkScene(t, s, widest())
		save[e]++
		if s.Root == 0 {
			load[checkBytes(t, whole(payload(s)), widest())]++
		}
		if e != api.OK {
			return
		}
		b, _ := Save(s, widest())
		if files[b] {
			t.Errorf("%x is the file of %s, and of another one", b, brief(s))
		}
		files[b] = true
	}
	for count := range 4 {
		eachSmallScene(count, look)
	}
	wantMet(t, save, 1, api.OK, api.ErrText, api.ErrRef, api.ErrCycle, api.ErrLoose, api.ErrOrder)
	wantMet(t, load, 1, api.OK, api.ErrText, api.ErrRef, api.ErrLoose)
}

// eachSmallScene goes through all scenes of so many small nodes, whatever the kids' and the root's places are.
func eachSmallScene(count int, look func(s api.Scene)) {
	var kids []int
	for at := range count + 1 {
		kids = append(kids, at)
	}
	choices := smallNodes(kids)
	var grow func(l []api.Node)
	grow = func(l []api.Node) {
		if len(l) < count {
			for _, n := range choices {
				grow(append(slices.Clone(l), n))
			}
			return
		}
		for root := range count + 1 {
			look(api.Scene{Nodes: l, Root: root})
		}
	}
	grow(nil)
}

// source makes valid scenes, and others, and bytes that are often a file.
type source struct{ next func(n int) int }

func (r source) text() string {
	return []string{"", "a", "b", "ab", "\u20ac", "e\u0301", "\x00", "\U0010ffff", strings.Repeat("long", 40)}[r.next(9)]
}

func (r source) size() int64 {
	return []int64{0, 1, 65536, 1 << 47, 1000, 77}[r.next(6)]
}

// node has these kids, and a kind that lets it have so many.
func (r source) node(kids []int) api.Node {
	n := group()
	switch {
	case len(kids) == 1 && r.next(2) == 1:
		n = trans(-r.size(), r.size(), 5, -r.size())
	case len(kids) == 0 && r.next(5) > 0:
		n = []api.Node{cube(r.size(), r.text()), sphere(r.size(), r.text()), text(r.text()), lamp(int64(r.next(256)))}[r.next(4)]
	}
	n.Kids = kids
	return n
}

// forward is a valid scene that is so.
func (r source) forward() api.Scene {
	count := 1 + r.next(10)
	kids := make([][]int, count)
	for at := range count - 1 {
		over := r.next(at + 1)
		kids[over] = append(kids[over], at+1)
		for range r.next(3) {
			kids[at] = append(kids[at], at+1+r.next(count-at-1))
		}
	}
	var s api.Scene
	for _, k := range kids {
		if r.next(2) == 1 {
			slices.Reverse(k)
		}
		s.Nodes = append(s.Nodes, r.node(k))
	}
	return s
}

// order is an order of so many places.
func (r source) order(count int) []int {
	var l []int
	for at := range count {
		l = slices.Insert(l, r.next(at+1), at)
	}
	return l
}

// breakScene makes something wrong with a scene, mostly.
func (r source) breakScene(s *api.Scene) {
	at := r.next(len(s.Nodes))
	n := &s.Nodes[at]
	switch r.next(8) {
	case 0:
		n.Kind = r.next(9) - 1
	case 1:
		n.Ints = slices.Repeat([]int64{-1 << 50}, len(n.Ints)+r.next(2))
	case 2:
		n.Texts = slices.Repeat([]string{"\xc3"}, len(n.Texts)+r.next(2))
	case 3:
		n.Kids = append(slices.Clone(n.Kids), r.next(len(s.Nodes)+2)-1)
	case 4:
		n.Kids = slices.Repeat([]int{r.next(len(s.Nodes))}, len(n.Kids))
	case 5:
		s.Root = r.next(len(s.Nodes)+2) - 1
	case 6:
		s.Nodes = append(s.Nodes, lamp(0))
	default:
		n.Kids = nil
	}
}

// breakBytes makes something wrong with bytes, mostly.
func (r source) breakBytes(b string) string {
	at := r.next(len(b) + 1)
	switch r.next(4) {
	case 0:
		return b[:at]
	case 1:
		return b[:at] + []string{"\x00", "\x80", "\xff", "\x81\x80\x80\x08"}[r.next(4)] + b[at:]
	case 2:
		return b[:at] + b[min(at+1, len(b)):]
	}
	return b[:at] + string([]byte{byte(r.next(12))}) + b[min(at+1, len(b)):]
}

// breakFile is a scene's file, with something wrong, mostly.
func (r source) breakFile(s api.Scene) string {
	p := payload(s)
	b := whole(p)
	switch r.next(6) {
	case 0:
		return whole(r.breakBytes(p))
	case 1:
		return r.breakBytes(b)
	case 2:
		return "DIOR" + string([]byte{byte(r.next(4))}) + b[5:]
	case 3:
		return turned(b, r.next(len(b)), 1<<r.next(8))
	case 4:
		x := marked(s)
		r.breakScene(&x)
		return whole(payload(x))
	}
	b = "DIOR" + string([]byte{byte(1 + r.next(2))})
	for range r.next(10) {
		b += section(byte(1+r.next(2)), []string{p, "", "\xff"}[r.next(3)])
	}
	return b
}

// limits are these, mostly, or one more or less of one of them.
func (r source) limits(l api.Limits) api.Limits {
	if r.next(2) == 0 {
		*parts(&l)[r.next(5)] += r.next(3) - 1
	}
	return l
}

// checkSource holds both calls against the promises' words, on what a source makes; it tells what they tell of what is broken.
func checkSource(t *testing.T, r source) (api.Errno, api.Errno) {
	t.Helper()
	s := r.forward()
	b := whole(payload(s))
	l := measure(s, b)
	if e := checkScene(t, s, l); e != api.OK {
		t.Errorf("%s: %d", brief(s), e)
	}
	near := r.limits(l)
	checkScene(t, s, near)
	checkBytes(t, b, near)
	checkScene(t, moved(s, r.order(len(s.Nodes))), near)
	l.Bytes *= 3
	got := checkBytes(t, r.breakFile(s), r.limits(l))
	broken := marked(s)
	if r.next(2) == 0 {
		broken = moved(broken, r.order(len(s.Nodes)))
	}
	r.breakScene(&broken)
	return checkScene(t, broken, r.limits(l)), got
}

// P17.1 to P17.3
func TestManyScenes(t *testing.T) {
	r := source{rand.New(rand.NewSource(1)).Intn}
	save, load := map[api.Errno]int{}, map[api.Errno]int{}
	for range 10000 {
		s, l := checkSource(t, r)
		save[s]++
		load[l]++
		if t.Failed() {
			return
		}
	}
	wantMet(t, save, 10, api.OK, api.ErrKind, api.ErrField, api.ErrText, api.ErrKids, api.ErrRef, api.ErrCycle, api.ErrLoose, api.ErrLimit, api.ErrOrder)
	wantMet(t, load, 10, api.OK, api.ErrCut, api.ErrLong, api.ErrForm, api.ErrCrc, api.ErrMagic, api.ErrVersion, api.ErrMore, api.ErrKind, api.ErrField, api.ErrText, api.ErrKids, api.ErrRef, api.ErrLoose, api.ErrLimit)
}

// P17.1 to P17.3: whatever scenes and bytes are made of these bytes.
func FuzzAll(f *testing.F) {
	f.Add([]byte{})
	f.Add([]byte("\x03\x00\x01\x00\x02\x01\x01\x00\x01\x02\x03\x01\x00\x02\x01\x05\x02\x01"))
	f.Add([]byte("\x08\x05\x03\x02\x01\x00\x03\x01\x05\x04\x02\x01\x00\x02\x01\x03\x02\x01\x01\x00\x05"))
	f.Fuzz(func(t *testing.T, b []byte) {
		at := 0
		checkSource(t, source{func(n int) int {
			at++
			if at > len(b) {
				return 0
			}
			return int(b[at-1]) % n
		}})
	})
}

// P17.2, P17.3: whatever the bytes are, as a file, and as a payload under a right sum.
func FuzzLoad(f *testing.F) {
	for _, x := range spellings() {
		m := limit.Measure(x.s)
		f.Add(whole(x.payload), x.payload, 999, m.Nodes, m.Edges, m.Depth, m.Text)
	}
	for _, x := range wrongPayloads() {
		f.Add("", x.payload, 999, 4, 4, 3, 5)
	}
	f.Fuzz(func(t *testing.T, b, payload string, bytes, count, edges, depth, text int) {
		l := api.Limits{Bytes: bytes, Nodes: count, Edges: edges, Depth: depth, Text: text}
		checkBytes(t, b, l)
		checkBytes(t, whole(payload), l)
	})
}

// P17.2: what is answered is new memory, and no two lists of it share any.
func TestLoadAnswersNewMemory(t *testing.T) {
	for _, x := range spellings() {
		b := whole(x.payload)
		first, _ := Load(b, widest())
		again, _ := Load(b, widest())
		for at, n := range first.Nodes {
			if !sameNode(n, x.s.Nodes[at]) {
				t.Errorf("node %d of %s: it became %v, as another one was changed", at, brief(x.s), n)
			}
			spoil(n)
		}
		clear(first.Nodes[:cap(first.Nodes)])
		if !same(again, x.s) {
			t.Errorf("%.300x: it became %s, as another answer was changed", b, brief(again))
		}
	}
}

// room is how many bytes of room are taken meanwhile.
func room(do func()) uint64 {
	var before, after runtime.MemStats
	runtime.ReadMemStats(&before)
	do()
	runtime.ReadMemStats(&after)
	return after.TotalAlloc - before.TotalAlloc
}

// P17.2: counts and lengths that say more than there is take no room, and neither do bytes beyond the limit.
func TestLoadMakesNoRoomByACount(t *testing.T) {
	many := string(binary.AppendUvarint(nil, most))
	long := "DIOR\x01" + section(1, strings.Repeat("x", 1<<20))
	took := room(func() {
		for range 100 {
			checkWrong(t, whole(many), widest(), api.ErrCut)
			checkWrong(t, whole(many+"\x01"+many), widest(), api.ErrCut)
			checkWrong(t, whole(many+"\x01"+many+"\x01"), widest(), api.ErrCut)
			checkWrong(t, whole("\x01\x05"+many), widest(), api.ErrCut)
			checkWrong(t, whole(many+"\x06\x00"+many), widest(), api.ErrKids)
			checkWrong(t, "DIOR\x01\x01"+many, widest(), api.ErrCut)
			checkWrong(t, long, api.Limits{Bytes: 1 << 20}, api.ErrLimit)
		}
	})
	if took > 4<<20 {
		t.Errorf("%d bytes of room", took)
	}
}

// P17.1: a text that very many nodes have would make a file far beyond all limits; it isn't written to its end.
func TestSaveOfOneTextVeryOften(t *testing.T) {
	s := made(group())
	name := strings.Repeat("n", most/16)
	for at := range 500 {
		s.Nodes[0].Kids = append(s.Nodes[0].Kids, at+1)
		s.Nodes = append(s.Nodes, text(name))
	}
	took := room(func() {
		if b, e := Save(s, widest()); e != api.ErrLimit || b != "" {
			t.Errorf("%d bytes, %d", len(b), e)
		}
	})
	if took > 12*most {
		t.Errorf("%d bytes of room", took)
	}
}

// checkGreat wants a great forward scene to be saved and loaded within its measure, and to be refused within less.
func checkGreat(t *testing.T, s api.Scene) {
	t.Helper()
	b, e := Save(s, widest())
	if e != api.OK || b != whole(payload(s)) {
		t.Fatalf("Save: %d bytes, %d", len(b), e)
	}
	m := measure(s, b)
	if got, e := Load(b, m); e != api.OK || !same(got, s) {
		t.Errorf("Load: %d", e)
	}
	if again, e := Save(s, m); e != api.OK || again != b {
		t.Errorf("Save again: %d", e)
	}
	for _, part := range parts(&m) {
		if *part > 0 {
			*part--
			if got, e := Load(b, m); e != api.ErrLimit || len(got.Nodes) > 0 || got.Root != 0 {
				t.Errorf("Load within less: %d", e)
			}
			if got, e := Save(s, m); e != api.ErrLimit || got != "" {
				t.Errorf("Save within less: %d", e)
			}
			*part++
		}
	}
}

// P17.1 to P17.3: very many nodes, ways down and levels.
func TestGreatScenes(t *testing.T) {
	const count = 1 << 15
	var deep, doubled api.Scene
	wide := made(group())
	for at := range count {
		deep.Nodes = append(deep.Nodes, trans(int64(at), 0, 0, 0, at+1))
		doubled.Nodes = append(doubled.Nodes, group(at+1, at+1))
		wide.Nodes[0].Kids = append(wide.Nodes[0].Kids, count-at)
		wide.Nodes = append(wide.Nodes, cube(int64(at), strings.Repeat("x", at%100)+string(rune('a'+at%26))))
	}
	deep.Nodes = append(deep.Nodes, lamp(9))
	doubled.Nodes = append(doubled.Nodes, text("end"))
	checkGreat(t, deep)
	checkGreat(t, doubled)
	checkGreat(t, wide)
}

// P17.1, P17.2: a file of as many bytes as any limit lets it have, and ones of more: also where the payload is too long for a section.
func TestTheLongestFiles(t *testing.T) {
	// A text's file has these beside its bytes.
	const beside = 5 + 1 + 4 + 1 + 1 + 4 + 1 + 4
	longest := made(text(strings.Repeat("n", most-beside)))
	b, e := Save(longest, widest())
	if e != api.OK || len(b) != most {
		t.Fatalf("Save: %d bytes, %d", len(b), e)
	}
	if got, e := Load(b, widest()); e != api.OK || !same(got, longest) {
		t.Errorf("Load: %d", e)
	}
	name := strings.Repeat("n", most+1)
	for _, n := range []int{most - beside + 1, most - 8, most - 7, most - 6, most, most + 1} {
		if b, e := Save(made(text(name[:n])), widest()); e != api.ErrLimit || b != "" {
			t.Errorf("Save of %d bytes: %d bytes, %d", n, len(b), e)
		}
	}
}
