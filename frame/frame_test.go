package frame

import (
	"encoding/binary"
	"fmt"
	"hash/crc32"
	"math"
	"math/rand"
	"slices"
	"strings"
	"testing"

	"diorama/api"
)

// plainSection writes a section's bytes by the library's own means.
func plainSection(id byte, payload string) string {
	b := binary.AppendUvarint([]byte{id}, uint64(len(payload)))
	b = append(b, payload...)
	return string(binary.LittleEndian.AppendUint32(b, crc32.ChecksumIEEE([]byte(payload))))
}

// plainFile writes a file's bytes, whatever is in them.
func plainFile(magic string, version byte, l []api.Section) string {
	b := magic + string([]byte{version})
	for _, s := range l {
		b += plainSection(byte(s.Id), s.Payload)
	}
	return b
}

// plainLength tells a length and how many bytes it takes, by the words of layer 1.
func plainLength(b string) (uint64, int, api.Errno) {
	var n uint64
	for i := range len(b) {
		if i == 9 && b[i] > 1 || i > 0 && b[i] == 0 {
			return 0, 0, api.ErrLong
		}
		n += uint64(b[i]&127) << (7 * i)
		if b[i] < 128 {
			return n, i + 1, api.OK
		}
	}
	return 0, 0, api.ErrCut
}

// plainGet goes through a file's bytes as P4.2 has it, word by word.
func plainGet(magic, b string) (int, []api.Section, api.Errno) {
	if len(magic) != 4 || len(b) < 4 || b[:4] != magic {
		return 0, nil, api.ErrMagic
	}
	if len(b) == 4 {
		return 0, nil, api.ErrCut
	}
	if b[4] == 0 {
		return 0, nil, api.ErrVersion
	}
	version := int(b[4])
	var l []api.Section
	for b = b[5:]; b != ""; {
		if len(l) == 8 {
			return 0, nil, api.ErrMore
		}
		id := int(b[0])
		if id == 0 {
			return 0, nil, api.ErrForm
		}
		n, size, e := plainLength(b[1:])
		if e != api.OK {
			return 0, nil, e
		}
		if n > 1<<24 {
			return 0, nil, api.ErrLimit
		}
		b = b[1+size:]
		if uint64(len(b)) < n+4 {
			return 0, nil, api.ErrCut
		}
		if crc32.ChecksumIEEE([]byte(b[:n])) != binary.LittleEndian.Uint32([]byte(b[n:n+4])) {
			return 0, nil, api.ErrCrc
		}
		l = append(l, api.Section{Id: id, Payload: b[:n]})
		b = b[n+4:]
	}
	return version, l, api.OK
}

// many are so many sections, all of them right.
func many(n int) []api.Section {
	var l []api.Section
	for i := range n {
		l = append(l, api.Section{Id: i + 1, Payload: strings.Repeat("x", i)})
	}
	return l
}

func someBytes(r *rand.Rand, n int) string {
	b := make([]byte, n)
	for i := range b {
		b[i] = byte(r.Intn(256))
	}
	return string(b)
}

func someSections(r *rand.Rand) []api.Section {
	l := make([]api.Section, r.Intn(9))
	for i := range l {
		l[i] = api.Section{Id: 1 + r.Intn(255), Payload: someBytes(r, r.Intn(150)*r.Intn(3))}
	}
	return l
}

// told are sections in few words, as a payload may be long.
func told(l []api.Section) string {
	text := fmt.Sprintf("%d sections", len(l))
	for _, s := range l[:min(len(l), 9)] {
		text += fmt.Sprintf(", %d of %d bytes % .40x", s.Id, len(s.Payload), s.Payload)
	}
	return text
}

func checkPut(t *testing.T, magic string, version int, l []api.Section, b string, e api.Errno) {
	t.Helper()
	got, err := Put(magic, version, l...)
	if got != b || err != e {
		t.Errorf("Put(%q, %d, %s): % .100x, %d, not % .100x, %d", magic, version, told(l), got, err, b, e)
	}
}

func checkGet(t *testing.T, magic, b string, version int, l []api.Section, e api.Errno) {
	t.Helper()
	v, got, err := Get(magic, b)
	if v != version || !slices.Equal(got, l) || err != e {
		t.Errorf("Get(%q, % .100x): %d, %s, %d, not %d, %s, %d", magic, b, v, told(got), err, version, told(l), e)
	}
}

func checkRefused(t *testing.T, b string, e api.Errno) {
	t.Helper()
	checkGet(t, "DIOR", b, 0, nil, e)
}

// P4.1: the chapter's example, and others that are written out.
func TestPutTellsTheBytes(t *testing.T) {
	for _, x := range []struct {
		magic   string
		version int
		l       []api.Section
		b       string
	}{
		{"DIOR", 2, []api.Section{{Id: 1}}, "\x44\x49\x4f\x52\x02\x01\x00\x00\x00\x00\x00"},
		{"DIOR", 2, nil, "DIOR\x02"},
		{"DIOR", 1, []api.Section{}, "DIOR\x01"},
		{"\x00\x00\x00\x00", 255, nil, "\x00\x00\x00\x00\xff"},
		{"\xff\x80é", 128, nil, "\xff\x80é\x80"},
		{"DIOR", 2, []api.Section{{Id: 7, Payload: "a"}}, "DIOR\x02\x07\x01a\x43\xbe\xb7\xe8"},
		{"DIOR", 2, []api.Section{{Id: 255, Payload: "123456789"}}, "DIOR\x02\xff\x09123456789\x26\x39\xf4\xcb"},
		{"ROID", 9, []api.Section{{Id: 3, Payload: "\x00"}, {Id: 1, Payload: "\xff"}, {Id: 3}},
			"ROID\x09\x03\x01\x00\x8d\xef\x02\xd2\x01\x01\xff\x00\x00\x00\xff\x03\x00\x00\x00\x00\x00"},
	} {
		checkPut(t, x.magic, x.version, x.l, x.b, api.OK)
		checkGet(t, x.magic, x.b, x.version, x.l, api.OK)
	}
}

// P4.1: the lengths at which the number before the payload takes another byte.
func TestPutOfEachLength(t *testing.T) {
	for _, n := range []int{0, 1, 127, 128, 129, 255, 256, 16383, 16384, 1 << 16, 1<<21 - 1, 1 << 21} {
		l := []api.Section{{Id: 9, Payload: strings.Repeat("\xfe", n)}, {Id: 8, Payload: "end"}}
		checkPut(t, "DIOR", 2, l, plainFile("DIOR", 2, l), api.OK)
		checkGet(t, "DIOR", plainFile("DIOR", 2, l), 2, l, api.OK)
	}
}

// P4.1: each version, and each Id.
func TestPutOfEachVersionAndId(t *testing.T) {
	for n := 1; n <= 255; n++ {
		l := []api.Section{{Id: n, Payload: "p"}, {Id: 256 - n}}
		b := plainFile("DIOR", byte(n), l)
		checkPut(t, "DIOR", n, l, b, api.OK)
		checkGet(t, "DIOR", b, n, l, api.OK)
	}
}

// P4.1: eight are a file, nine are none.
func TestPutOfManySections(t *testing.T) {
	for n := range 9 {
		checkPut(t, "DIOR", 2, many(n), plainFile("DIOR", 2, many(n)), api.OK)
	}
	for _, n := range []int{9, 10, 16, 256, 300} {
		checkPut(t, "DIOR", 2, many(n), "", api.ErrMore)
	}
}

// P4.1
func TestPutRefusesMagicWords(t *testing.T) {
	for _, magic := range []string{"", "D", "DI", "DIO", "DIOR\x00", "DIORA", "DIORDIOR", "éééé", "éé\x00"} {
		checkPut(t, magic, 2, many(1), "", api.ErrMagic)
	}
	checkPut(t, "éé", 2, nil, "éé\x02", api.OK)
}

// wrongBytes are numbers that no version and no Id is.
func wrongBytes() []int {
	return []int{math.MinInt, math.MinInt32, -256, -255, -2, -1, 0, 256, 257, 258, 511, 512, 1 << 16, 1<<32 + 1, math.MaxInt}
}

// P4.1
func TestPutRefusesVersionsAndIds(t *testing.T) {
	for _, n := range wrongBytes() {
		checkPut(t, "DIOR", n, many(1), "", api.ErrVersion)
		checkPut(t, "DIOR", 2, []api.Section{{Id: n}}, "", api.ErrForm)
		checkPut(t, "DIOR", 2, append(many(7), api.Section{Id: n, Payload: "a"}), "", api.ErrForm)
	}
}

// P4.1 and P4.2: 2^24 bytes are a payload, one more is none.
func TestLongestPayload(t *testing.T) {
	longest := strings.Repeat("\x00", 1<<24)
	l := []api.Section{{Id: 1, Payload: longest}}
	b := plainFile("DIOR", 2, l)
	checkPut(t, "DIOR", 2, l, b, api.OK)
	checkGet(t, "DIOR", b, 2, l, api.OK)
	checkPut(t, "DIOR", 2, []api.Section{{Id: 1, Payload: longest + "a"}}, "", api.ErrLimit)
	checkPut(t, "DIOR", 2, append(many(7), api.Section{Id: 1, Payload: longest + longest}), "", api.ErrLimit)
	checkRefused(t, "DIOR\x02"+plainSection(1, longest+"a"), api.ErrLimit)
}

// P4.1: of several errors the one that is named first, and of the sections the first that has one.
func TestPutTellsTheFirstError(t *testing.T) {
	right := api.Section{Id: 1, Payload: "a"}
	long := api.Section{Id: 1, Payload: strings.Repeat("a", 1<<24+1)}
	wrong := api.Section{Id: 0, Payload: "a"}
	both := api.Section{Id: 256, Payload: long.Payload}
	checkPut(t, "DIO", 0, make([]api.Section, 9), "", api.ErrMagic)
	checkPut(t, "DIO", 2, []api.Section{wrong}, "", api.ErrMagic)
	checkPut(t, "DIOR", 0, make([]api.Section, 9), "", api.ErrVersion)
	checkPut(t, "DIOR", 256, []api.Section{long}, "", api.ErrVersion)
	checkPut(t, "DIOR", 2, make([]api.Section, 9), "", api.ErrMore)
	checkPut(t, "DIOR", 2, append(many(8), long), "", api.ErrMore)
	checkPut(t, "DIOR", 2, []api.Section{both}, "", api.ErrForm)
	checkPut(t, "DIOR", 2, []api.Section{long, wrong}, "", api.ErrLimit)
	checkPut(t, "DIOR", 2, []api.Section{wrong, long}, "", api.ErrForm)
	checkPut(t, "DIOR", 2, []api.Section{right, right, long, both}, "", api.ErrLimit)
}

// P4.1: what is handed in stays as it is, its spare room too.
func TestPutLeavesTheSections(t *testing.T) {
	l := append(make([]api.Section, 0, 6), many(5)...)
	room := l[:6]
	room[5] = api.Section{Id: 77, Payload: "spare"}
	was := slices.Clone(room)
	first, _ := Put("DIOR", 2, l...)
	if !slices.Equal(room, was) {
		t.Errorf("%s, not %s", told(room), told(was))
	}
	l[0].Payload = "another"
	if first != plainFile("DIOR", 2, was[:5]) {
		t.Errorf("% x has changed", first)
	}
}

// P4.2
func TestGetRefusesMagicWords(t *testing.T) {
	b := plainFile("DIOR", 2, many(2))
	for _, magic := range []string{"", "D", "DIO", "DIOR\x02", b, "dior", "ROID", "DIOS", "\x00DIO", "éé"} {
		checkGet(t, magic, b, 0, nil, api.ErrMagic)
	}
	for n := range 4 {
		checkRefused(t, b[:n], api.ErrMagic)
		other := []byte(b)
		other[n] ^= 0x20
		checkRefused(t, string(other), api.ErrMagic)
	}
	checkRefused(t, "\x00"+b, api.ErrMagic)
	checkGet(t, "DIO", "DIO", 0, nil, api.ErrMagic)
	checkGet(t, "", "", 0, nil, api.ErrMagic)
}

// P4.2
func TestGetOfTheVersion(t *testing.T) {
	checkRefused(t, "DIOR", api.ErrCut)
	checkRefused(t, "DIOR\x00", api.ErrVersion)
	checkRefused(t, "DIOR\x00"+plainSection(1, "a"), api.ErrVersion)
	checkRefused(t, "DIOR\x00\x00", api.ErrVersion)
	checkGet(t, "DIOR", "DIOR\x01", 1, nil, api.OK)
	checkGet(t, "DIOR", "DIOR\xff", 255, nil, api.OK)
}

// P4.2: behind eight sections there is nothing, not even a wrong one.
func TestGetOfManySections(t *testing.T) {
	for n := range 9 {
		checkGet(t, "DIOR", plainFile("DIOR", 2, many(n)), 2, many(n), api.OK)
	}
	eight := plainFile("DIOR", 2, many(8))
	for _, more := range []string{"\x00", "\x01", "\x01\x80\x00", "\x01\xff", plainSection(9, "a"), plainSection(0, ""), strings.Repeat(plainSection(1, ""), 300)} {
		checkRefused(t, eight+more, api.ErrMore)
	}
	checkRefused(t, plainFile("DIOR", 2, many(7))+"\x00", api.ErrForm)
}

// wrongSections are bytes that no section begins with, and what is wrong with them.
func wrongSections() map[string]api.Errno {
	a := plainSection(1, "a")
	return map[string]api.Errno{
		"\x00":                             api.ErrForm,
		"\x00\x80\x00":                     api.ErrForm,
		plainSection(0, "a"):               api.ErrForm,
		"\x01":                             api.ErrCut,
		"\xff\x80":                         api.ErrCut,
		"\x01\xff\xff\xff\xff\xff\xff\xff": api.ErrCut,
		"\x01\x80\x00":                     api.ErrLong,
		"\x01\x81\x80\x00a":                api.ErrLong,
		"\x01" + strings.Repeat("\xff", 9) + "\x02": api.ErrLong,
		"\x01" + strings.Repeat("\x80", 9) + "\x80": api.ErrLong,
		"\x01" + strings.Repeat("\xff", 9) + "\x01": api.ErrLimit,
		"\x01" + strings.Repeat("\x80", 9) + "\x01": api.ErrLimit,
		"\x01\x81\x80\x80\x08":                      api.ErrLimit,
		"\x01\x80\x80\x80\x10":                      api.ErrLimit,
		"\x01\x80\x80\x80\x80\x10a":                 api.ErrLimit,
		"\x01\x80\x80\x80\x08":                      api.ErrCut,
		"\x01\x80\x80\x80\x08abc":                   api.ErrCut,
		"\x01\x00":                                  api.ErrCut,
		"\x01\x00\x00\x00\x00":                      api.ErrCut,
		"\x01\x01":                                  api.ErrCut,
		"\x01\x02a":                                 api.ErrCut,
		"\x01\x01b\x43\xbe\xb7":                     api.ErrCut,
		a[:3]:                                       api.ErrCut,
		a[:6]:                                       api.ErrCut,
		"\x01\x00\x00\x00\x00\x01":                  api.ErrCrc,
		"\x01\x01b\x43\xbe\xb7\xe8":                 api.ErrCrc,
		"\x01\x01a\xe8\xb7\xbe\x43":                 api.ErrCrc,
		"\x01\x01a\xbc\x41\x48\x17":                 api.ErrCrc,
		"\x01\x01a\x00\x00\x00\x00":                 api.ErrCrc,
		"\x01\x01b\x43\xbe\xb7\xe8\x00":             api.ErrCrc,
		"\x01\x02a\x43\xbe\xb7\xe8" + "\x00\x00":    api.ErrCrc,
	}
}

// P4.2: whichever section it is, up to the eighth, that has something wrong.
func TestGetRefusesSections(t *testing.T) {
	for b, e := range wrongSections() {
		for n := range 8 {
			checkRefused(t, plainFile("DIOR", 2, many(n))+b, e)
		}
	}
}

// P4.2: the first section that has something wrong, not the worst.
func TestGetTellsTheFirstError(t *testing.T) {
	wrong := "\x01\x01b\x43\xbe\xb7\xe8"
	checkRefused(t, "DIOR\x02"+wrong+"\x00", api.ErrCrc)
	checkRefused(t, "DIOR\x02"+wrong+strings.Repeat(plainSection(1, ""), 9), api.ErrCrc)
	checkRefused(t, "DIOR\x02\x00"+wrong, api.ErrForm)
	checkRefused(t, "DIOR\x00"+wrong, api.ErrVersion)
	checkRefused(t, "DIOS\x00"+wrong, api.ErrMagic)
	checkRefused(t, plainFile("DIOR", 2, many(7))+wrong+"\x01", api.ErrCrc)
}

// P4.2: no bit of a sum may be another one.
func TestGetHoldsEachBitOfASum(t *testing.T) {
	b := plainFile("DIOR", 2, []api.Section{{Id: 4, Payload: "123456789"}})
	for bit := range 32 {
		other := []byte(b)
		other[len(b)-4+bit/8] ^= 1 << (bit % 8)
		checkRefused(t, string(other), api.ErrCrc)
	}
}

// P4.3
func TestWhatIsPutIsGot(t *testing.T) {
	r := rand.New(rand.NewSource(1))
	for range 2000 {
		magic, version, l := someBytes(r, 4), 1+r.Intn(255), someSections(r)
		b, e := Put(magic, version, l...)
		if b != plainFile(magic, byte(version), l) || e != api.OK {
			t.Errorf("Put(%q, %d, %s): % x, %d", magic, version, told(l), b, e)
		}
		checkGet(t, magic, b, version, l, api.OK)
	}
}

// checkPutAgain holds Get against the words of P4.2, and what is got against the bytes.
func checkPutAgain(t *testing.T, magic, b string) {
	t.Helper()
	version, l, e := plainGet(magic, b)
	checkGet(t, magic, b, version, l, e)
	version, l, e = Get(magic, b)
	if e == api.OK {
		checkPut(t, magic, version, l, b, api.OK)
	}
}

// changed is b with a few bytes put, dropped, or changed.
func changed(r *rand.Rand, b string) string {
	for range 1 + r.Intn(3) {
		at := r.Intn(len(b) + 1)
		to := min(at+r.Intn(3), len(b))
		b = b[:at] + someBytes(r, r.Intn(3)) + b[to:]
	}
	return b
}

// P4.3: of whatever is got, changed files among them.
func TestWhatIsGotIsPutAsItWas(t *testing.T) {
	r := rand.New(rand.NewSource(2))
	for range 5000 {
		b := plainFile("DIOR", byte(1+r.Intn(255)), someSections(r))
		checkPutAgain(t, "DIOR", b)
		checkPutAgain(t, "DIOR", changed(r, b))
		checkPutAgain(t, "DIOR", "DIOR\x02"+someBytes(r, r.Intn(12)))
	}
}

// P4.3: the bits of a payload, each byte's lowest first, are changed within 32 on end.
func TestChangedPayloadsAreTold(t *testing.T) {
	r := rand.New(rand.NewSource(3))
	for range 3000 {
		l := append(someSections(r), api.Section{Id: 1, Payload: someBytes(r, 1+r.Intn(60))})
		l = l[max(0, len(l)-8):]
		i := len(l) - 1
		before := plainFile("DIOR", 2, l[:i])
		payload := []byte(l[i].Payload)
		from := r.Intn(len(payload) * 8)
		payload[from/8] ^= 1 << (from % 8)
		for bit := from + 1; bit < min(from+32, len(payload)*8); bit++ {
			payload[bit/8] ^= byte(r.Intn(2)) << (bit % 8)
		}
		b := plainFile("DIOR", 2, l)
		head := len(b) - len(payload) - 4
		checkRefused(t, b[:head]+string(payload)+b[len(b)-4:], api.ErrCrc)
		if i < 7 { // Whatever is behind it.
			checkRefused(t, before+b[len(before):head]+string(payload)+b[len(b)-4:]+plainSection(2, "behind"), api.ErrCrc)
		}
	}
}

// P4.3: a file that is cut off has an error, or fewer sections: those that are whole.
func TestCutOffItIsNeverTheSame(t *testing.T) {
	l := []api.Section{{Id: 1, Payload: "a"}, {Id: 2}, {Id: 3, Payload: strings.Repeat("\x00", 130)}, {Id: 3}}
	b := plainFile("DIOR", 2, l)
	whole := map[int]int{} // by how many bytes are left: how many sections
	for i := range l {
		whole[len(plainFile("DIOR", 2, l[:i]))] = i
	}
	for n := range len(b) {
		i, ok := whole[n]
		switch {
		case ok:
			checkGet(t, "DIOR", b[:n], 2, l[:i], api.OK)
		case n < 4:
			checkRefused(t, b[:n], api.ErrMagic)
		default:
			checkRefused(t, b[:n], api.ErrCut)
		}
	}
}

// P4.2: two answers share nothing.
func TestGetAnswersNewMemory(t *testing.T) {
	b := plainFile("DIOR", 2, many(3))
	_, first, _ := Get("DIOR", b)
	_ = append(first, api.Section{Id: 99})
	first[0] = api.Section{Id: 98, Payload: "another"}
	checkGet(t, "DIOR", b, 2, many(3), api.OK)
}

// P4.1 to P4.3: whatever the bytes are.
func FuzzGet(f *testing.F) {
	f.Add("DIOR", "DIOR\x02")
	f.Add("DIOR", plainFile("DIOR", 2, many(8)))
	f.Add("DIOR", "DIOR\x02\x01\x01b\x43\xbe\xb7\xe8")
	f.Add("", "")
	f.Fuzz(func(t *testing.T, magic, b string) {
		checkPutAgain(t, magic, b)
	})
}
