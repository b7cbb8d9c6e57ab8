package message_test

import (
	"errors"
	"math"
	"reflect"
	"slices"
	"strings"
	"testing"

	"bolter/api"
	"bolter/message"
)

const tail = "abcdefghijklmnopqrst"

func ask(n api.Name, t api.Type) api.Message {
	return api.Message{Question: api.Question{Name: n, Type: t}}
}

func some(many int) []api.Record {
	out := make([]api.Record, many)
	for i := range out {
		out[i] = api.Record{Name: "\x01x", Type: api.A, TTL: uint32(i), Data: "\x01\x02\x03\x04"}
	}
	return out
}

// full is a message that has all there is.
func full() api.Message {
	return api.Message{
		Header:   api.Header{ID: 0x1234, Reply: true, Opcode: 5, Authoritative: true, Desired: true, Code: 9},
		Question: api.Question{Name: "\x01a\x01b", Type: api.TXT},
		Answer: []api.Record{
			{Name: "\x01a\x01b", Type: api.CNAME, TTL: 0x01020304, Data: "\x01c\x01b"},
			{Name: "\x01c\x01b", Type: api.TXT, TTL: math.MaxUint32, Data: "\x02hi\x00"},
		},
		Authority: []api.Record{{Name: "\x01b", Type: api.SOA, TTL: 7, Data: "\x01c\x01b\x00\x01d\x00" + tail}},
		Extra:     []api.Record{{Name: "", Type: 99, TTL: 0, Data: ""}},
		Size:      0x1080,
	}
}

const fullBytes = "\x12\x34\xad\x09\x00\x01\x00\x02\x00\x01\x00\x02" +
	"\x01a\x01b\x00\x00\x10\x00\x01" +
	"\xc0\x0c\x00\x05\x00\x01\x01\x02\x03\x04\x00\x04\x01c\xc0\x0e" +
	"\xc0\x21\x00\x10\x00\x01\xff\xff\xff\xff\x00\x04\x02hi\x00" +
	"\xc0\x0e\x00\x06\x00\x01\x00\x00\x00\x07\x00\x19\xc0\x21\x01d\x00" + tail +
	"\x00\x00\x63\x00\x01\x00\x00\x00\x00\x00\x00" +
	"\x00\x00\x29\x10\x80\x00\x00\x00\x00\x00\x00"

// P5.1

func TestMayRecord(t *testing.T) {
	for _, c := range []struct {
		r    api.Record
		want bool
	}{
		{api.Record{Name: "\x01a", Type: api.A, Data: "abcd"}, true},
		{api.Record{Name: "", Type: api.TXT, TTL: math.MaxUint32, Data: "\x00"}, true},
		{api.Record{Name: "\x01a", Type: 99}, true},
		{api.Record{Name: "\x01a", Type: 99, Data: strings.Repeat("x", 512)}, true},
		{api.Record{Name: "a", Type: api.A, Data: "abcd"}, false},
		{api.Record{Name: "\x01A", Type: api.A, Data: "abcd"}, false},
		{api.Record{Name: "\x01a", Type: api.A, Data: "abc"}, false},
		{api.Record{Name: "\x01a", Type: api.NS, Data: "\x01a\x00"}, false},
		{api.Record{Name: "\x01a", Type: api.TXT}, false},
		{api.Record{Name: "\x01a", Type: 99, Data: strings.Repeat("x", 513)}, false},
		{api.Record{Name: "\x01a", Type: api.OPT}, false},
		{api.Record{Type: api.OPT}, false},
	} {
		if got := message.MayRecord(c.r); got != c.want {
			t.Errorf("MayRecord(%+v) = %v", c.r, got)
		}
	}
}

// variants are messages of which each one may be, or may not.
func variants() map[string]struct {
	m  api.Message
	ok bool
} {
	out := map[string]struct {
		m  api.Message
		ok bool
	}{}
	add := func(why string, ok bool, change func(m *api.Message)) {
		m := full()
		change(&m)
		out[why] = struct {
			m  api.Message
			ok bool
		}{m, ok}
	}
	add("as it is", true, func(m *api.Message) {})
	add("opcode 0", true, func(m *api.Message) { m.Header.Opcode = 0 })
	add("opcode 15", true, func(m *api.Message) { m.Header.Opcode = 15 })
	add("opcode 16", false, func(m *api.Message) { m.Header.Opcode = 16 })
	add("opcode -1", false, func(m *api.Message) { m.Header.Opcode = -1 })
	add("opcode -16", false, func(m *api.Message) { m.Header.Opcode = -16 })
	add("code 0", true, func(m *api.Message) { m.Header.Code = 0 })
	add("code 15", true, func(m *api.Message) { m.Header.Code = 15 })
	add("code 16", false, func(m *api.Message) { m.Header.Code = 16 })
	add("code -1", false, func(m *api.Message) { m.Header.Code = -1 })
	add("size 0", true, func(m *api.Message) { m.Size = 0 })
	add("size 1", true, func(m *api.Message) { m.Size = 1 })
	add("size 65535", true, func(m *api.Message) { m.Size = 65535 })
	add("size 65536", false, func(m *api.Message) { m.Size = 65536 })
	add("size -1", false, func(m *api.Message) { m.Size = -1 })
	add("size -65536", false, func(m *api.Message) { m.Size = -65536 })
	add("a question for the root", true, func(m *api.Message) { m.Question.Name = "" })
	add("a question for no name", false, func(m *api.Message) { m.Question.Name = "a" })
	add("a question for a name with a great letter", false, func(m *api.Message) { m.Question.Name = "\x01A" })
	add("a question for OPT", true, func(m *api.Message) { m.Question.Type = api.OPT })
	for k, name := range []string{"answer", "authority", "extra"} {
		part := func(m *api.Message) *[]api.Record {
			return []*[]api.Record{&m.Answer, &m.Authority, &m.Extra}[k]
		}
		add("none "+name, true, func(m *api.Message) { *part(m) = nil })
		add("64 "+name, true, func(m *api.Message) { *part(m) = some(64) })
		add("65 "+name, false, func(m *api.Message) { *part(m) = some(65) })
		add("a bad "+name, false, func(m *api.Message) { *part(m) = append(some(1), api.Record{Name: "\x01a", Type: api.A}) })
		add("a bad first "+name, false, func(m *api.Message) { *part(m) = append([]api.Record{{Name: "a", Type: 99}}, some(1)...) })
		add("an OPT in "+name, false, func(m *api.Message) { *part(m) = []api.Record{{Type: api.OPT}} })
	}
	return out
}

func TestMay(t *testing.T) {
	for why, c := range variants() {
		if got := message.May(c.m); got != c.ok {
			t.Errorf("%s: May is %v", why, got)
		}
	}
	if !message.May(api.Message{}) {
		t.Error("May of the zero message is false")
	}
}

// P5.2

func TestEncode(t *testing.T) {
	q := ask("\x01x", api.A)
	q.Header.ID, q.Header.Desired = 7, true
	sized := ask("", 0x1234)
	sized.Size = 65535
	for _, c := range []struct {
		m    api.Message
		want string
	}{
		{q, "\x00\x07\x01\x00\x00\x01\x00\x00\x00\x00\x00\x00\x01x\x00\x00\x01\x00\x01"},
		{api.Message{}, "\x00\x00\x00\x00\x00\x01\x00\x00\x00\x00\x00\x00\x00\x00\x00\x00\x01"},
		{sized, "\x00\x00\x00\x00\x00\x01\x00\x00\x00\x00\x00\x01\x00\x12\x34\x00\x01\x00\x00\x29\xff\xff\x00\x00\x00\x00\x00\x00"},
		{full(), fullBytes},
	} {
		for _, limit := range []int{len(c.want), len(c.want) + 1, math.MaxInt} {
			if got, ok := message.Encode(c.m, limit); string(got) != c.want || !ok {
				t.Errorf("Encode(%+v, %d) = %q, %v, want %q", c.m, limit, got, ok, c.want)
			}
		}
	}
}

func TestEncodeOfFlags(t *testing.T) {
	for _, c := range []struct {
		h    api.Header
		want uint16
	}{
		{api.Header{Reply: true}, 0x8000},
		{api.Header{Opcode: 15}, 0x7800},
		{api.Header{Opcode: 1}, 0x0800},
		{api.Header{Authoritative: true}, 0x0400},
		{api.Header{Truncated: true}, 0x0200},
		{api.Header{Desired: true}, 0x0100},
		{api.Header{Available: true}, 0x0080},
		{api.Header{Code: 15}, 0x000f},
		{api.Header{Code: 1}, 0x0001},
		{api.Header{Reply: true, Opcode: 15, Authoritative: true, Truncated: true, Desired: true, Available: true, Code: 15}, 0xff8f},
	} {
		m := api.Message{Header: c.h}
		b, ok := message.Encode(m, 512)
		if !ok || len(b) != 17 || uint16(b[2])<<8|uint16(b[3]) != c.want {
			t.Errorf("Encode of %+v = %v, %v", c.h, b, ok)
		}
		if back, err := message.Decode(b); err != nil || back.Header != c.h {
			t.Errorf("%+v comes back as %+v, %v", c.h, back.Header, err)
		}
	}
}

func TestEncodeOfMoreThanTheLimit(t *testing.T) {
	m := full()
	short := "\x12\x34\xaf\x09\x00\x01\x00\x00\x00\x00\x00\x01" + "\x01a\x01b\x00\x00\x10\x00\x01" + "\x00\x00\x29\x10\x80\x00\x00\x00\x00\x00\x00"
	bare := full()
	bare.Size = 0
	shortBare := "\x12\x34\xaf\x09\x00\x01\x00\x00\x00\x00\x00\x00" + "\x01a\x01b\x00\x00\x10\x00\x01"
	for _, c := range []struct {
		m     api.Message
		limit int
		want  string
		ok    bool
	}{
		{m, len(fullBytes) - 1, short, true},
		{m, len(short), short, true},
		{m, len(short) - 1, "", false},
		{m, 0, "", false},
		{m, -1, "", false},
		{m, math.MinInt, "", false},
		{bare, len(short), shortBare, true},
		{bare, len(shortBare), shortBare, true},
		{bare, len(shortBare) - 1, "", false},
	} {
		if got, ok := message.Encode(c.m, c.limit); string(got) != c.want || ok != c.ok {
			t.Errorf("Encode(.., %d) = %q, %v, want %q", c.limit, got, ok, c.want)
		}
	}
	if !reflect.DeepEqual(m, full()) {
		t.Error("Encode has changed its message")
	}
}

func TestEncodeOfNoMessage(t *testing.T) {
	for why, c := range variants() {
		b, ok := message.Encode(c.m, math.MaxInt)
		if ok != c.ok || (len(b) > 0) != c.ok {
			t.Errorf("%s: Encode = %d bytes, %v", why, len(b), ok)
		}
		if _, ok := message.Encode(c.m, 40); ok != c.ok {
			t.Errorf("%s: Encode with a limit = %v", why, ok)
		}
	}
}

func TestEncodeOfManyRecords(t *testing.T) {
	m := api.Message{Answer: some(64), Authority: some(64), Extra: some(64), Size: 512}
	b, ok := message.Encode(m, 1<<20)
	if !ok || string(b[6:12]) != "\x00\x40\x00\x40\x00\x41" {
		t.Fatalf("%q, %v", b[6:12], ok)
	}
	if got, err := message.Decode(b); err != nil || !same(got, m) {
		t.Errorf("it comes back as %+v, %v", got, err)
	}
}

// P5.3

// same holds messages against each other; parts without records are alike.
func same(a, b api.Message) bool {
	return a.Header == b.Header && a.Question == b.Question && a.Size == b.Size &&
		slices.Equal(a.Answer, b.Answer) && slices.Equal(a.Authority, b.Authority) && slices.Equal(a.Extra, b.Extra)
}

func TestDecodeOfEncode(t *testing.T) {
	for why, c := range variants() {
		if !c.ok {
			continue
		}
		b, _ := message.Encode(c.m, math.MaxInt)
		if got, err := message.Decode(b); err != nil || !same(got, c.m) {
			t.Errorf("%s: %+v, %v", why, got, err)
		}
	}
}

func TestDecodeFoldsAndFollowsPointers(t *testing.T) {
	const b = "\x00\x07\x01\x00\x00\x01\x00\x01\x00\x01\x00\x00" + "\x01X\x01Y\x00\x00\x01\x00\x01" +
		"\x01Q\xc0\x0e\x00\x02\x00\x01\x00\x00\x00\x09\x00\x02\xc0\x0c" + // a name that points to the end of another one
		"\xc0\x23\x00\x05\x00\x01\x00\x00\x00\x00\x00\x01\x00" // a pointer to the data of the record ahead, which is one too
	m := ask("\x01x\x01y", api.A)
	m.Header = api.Header{ID: 7, Desired: true}
	m.Answer = []api.Record{{Name: "\x01q\x01y", Type: api.NS, TTL: 9, Data: "\x01x\x01y"}}
	m.Authority = []api.Record{{Name: "\x01x\x01y", Type: api.CNAME, Data: ""}}
	if got, err := message.Decode([]byte(b)); err != nil || !same(got, m) {
		t.Errorf("%+v, %v", got, err)
	}
	// The question's name may lead into the header: the two bytes of the number of answers, here 0.
	into := "\x00\x00\x00\x00\x00\x01\x00\x00\x00\x00\x00\x00" + "\xc0\x06\x00\x01\x00\x01"
	if got, err := message.Decode([]byte(into)); err != nil || !same(got, ask("", api.A)) {
		t.Errorf("%+v, %v", got, err)
	}
}

const (
	head     = "\x00\x07\x00\x00\x00\x01"
	none     = "\x00\x00"
	one      = "\x00\x01"
	two      = "\x00\x02"
	question = "\x01x\x00\x00\x01\x00\x01"
	record   = "\x01x\x00\x00\x01\x00\x01\x00\x00\x00\x05\x00\x04\x01\x02\x03\x04"
	size     = "\x00\x00\x29\x02\x00\x00\x00\x00\x00\x00\x00"
)

func TestDecodeOfTheSize(t *testing.T) {
	r := api.Record{Name: "\x01x", Type: api.A, TTL: 5, Data: "\x01\x02\x03\x04"}
	for _, c := range []struct {
		b     string
		extra []api.Record
		size  int
	}{
		{head + none + none + one + question + size, nil, 512},
		{head + none + none + two + question + size + record, []api.Record{r}, 512},
		{head + none + none + two + question + record + size, []api.Record{r}, 512},
		{head + none + none + "\x00\x03" + question + record + size + record, []api.Record{r, r}, 512},
		{head + none + none + one + question + strings.Replace(size, "\x02\x00", "\x00\x01", 1), nil, 1},
		{head + none + none + one + question + strings.Replace(size, "\x02\x00", "\xff\xff", 1), nil, 65535},
		{head + none + none + one + question + "\xc0\x0e" + size[1:], nil, 512}, // the root by a pointer
		{head + none + none + one + question + record, []api.Record{r}, 0},
	} {
		m := ask("\x01x", api.A)
		m.Header.ID, m.Extra, m.Size = 7, c.extra, c.size
		if got, err := message.Decode([]byte(c.b)); err != nil || !same(got, m) {
			t.Errorf("Decode(%q) = %+v, %v", c.b, got, err)
		}
	}
}

func TestDecodeOfParts(t *testing.T) {
	r := api.Record{Name: "\x01x", Type: api.A, TTL: 5, Data: "\x01\x02\x03\x04"}
	all := slices.Repeat([]api.Record{r}, 64)
	for _, c := range []struct {
		b    string
		want api.Message
		ok   bool
	}{
		{head + one + two + "\x00\x03" + question + strings.Repeat(record, 6), api.Message{Answer: all[:1], Authority: all[:2], Extra: all[:3]}, true},
		{head + "\x00\x40" + none + none + question + strings.Repeat(record, 64), api.Message{Answer: all}, true},
		{head + none + "\x00\x40" + none + question + strings.Repeat(record, 64), api.Message{Authority: all}, true},
		{head + none + none + "\x00\x40" + question + strings.Repeat(record, 64), api.Message{Extra: all}, true},
		{head + none + none + "\x00\x41" + question + strings.Repeat(record, 64) + size, api.Message{Extra: all, Size: 512}, true},
		{head + none + none + "\x00\x41" + question + size + strings.Repeat(record, 64), api.Message{Extra: all, Size: 512}, true},
		{head + "\x00\x41" + none + none + question + strings.Repeat(record, 65), api.Message{}, false},
		{head + none + "\x00\x41" + none + question + strings.Repeat(record, 65), api.Message{}, false},
		{head + none + none + "\x00\x41" + question + strings.Repeat(record, 65), api.Message{}, false},
		{head + none + none + "\x00\x42" + question + strings.Repeat(record, 65) + size, api.Message{}, false},
		{head + "\xff\xff\xff\xff\xff\xff" + question + record, api.Message{}, false},
	} {
		if c.ok {
			c.want.Header.ID, c.want.Question = 7, api.Question{Name: "\x01x", Type: api.A}
		}
		got, err := message.Decode([]byte(c.b))
		if c.ok != (err == nil) || !same(got, c.want) {
			t.Errorf("Decode(%q) = %+v, %v", c.b, got, err)
		}
	}
}

func TestDecodeOfNoMessage(t *testing.T) {
	flagged := func(a, b byte) string {
		return "\x00\x07" + string([]byte{a, b}) + "\x00\x01" + none + none + none + question
	}
	if _, err := message.Decode([]byte(flagged(0xff, 0x8f))); err != nil {
		t.Error(err)
	}
	for why, b := range map[string]string{
		"nothing":                     "",
		"a byte":                      "\x00",
		"a head alone":                head + none + none + none,
		"half a head":                 head,
		"no question":                 "\x00\x07\x00\x00\x00\x00" + none + none + none,
		"no question, but one":        "\x00\x07\x00\x00\x00\x00" + none + none + none + question,
		"two questions":               "\x00\x07\x00\x00\x00\x02" + none + none + none + question + question,
		"257 questions":               "\x00\x07\x00\x00\x01\x01" + none + none + none + question,
		"the first of the three bits": flagged(0, 0x40),
		"the second one":              flagged(0, 0x20),
		"the third one":               flagged(0, 0x10),
		"half a question":             head + none + none + none + question[:5],
		"a question without its last": head + none + none + none + question[:6],
		"a class 0":                   head + none + none + none + "\x01x\x00\x00\x01\x00\x00",
		"a class 3":                   head + none + none + none + "\x01x\x00\x00\x01\x00\x03",
		"a class 257":                 head + none + none + none + "\x01x\x00\x00\x01\x01\x01",
		"a question of no name":       head + none + none + none + "\x40x\x00\x00\x01\x00\x01",
		"a name that leads on":        head + none + none + none + "\xc0\x0c\x00\x01\x00\x01",
		"a byte more":                 head + none + none + none + question + "\x00",
		"a record more":               head + none + none + none + question + record,
		"a record less":               head + two + none + none + question + record,
		"an authority less":           head + none + two + none + question + record,
		"an extra less":               head + none + none + two + question + record,
		"half a record":               head + one + none + none + question + record[:9],
		"a record without its last":   head + one + none + none + question + record[:len(record)-1],
		"data too long":               head + one + none + none + question + strings.Replace(record, "\x00\x04", "\x00\x05", 1) + "\x05",
		"data too short":              head + one + none + none + question + strings.Replace(record, "\x00\x04", "\x00\x03", 1)[:len(record)-1],
		"a record's class 0":          head + one + none + none + question + "\x01x\x00\x00\x01\x00\x00" + record[7:],
		"a record's class 255":        head + one + none + none + question + "\x01x\x00\x00\x01\x00\xff" + record[7:],
		"an extra's class 2":          head + none + none + one + question + "\x01x\x00\x00\x01\x00\x02" + record[7:],
		"a record of no name":         head + one + none + none + question + "\x80" + record,
		"a text cut off":              head + one + none + none + question + "\x00\x00\x10\x00\x01\x00\x00\x00\x00\x00\x02\x05a",
		"a name's data with a rest":   head + one + none + none + question + "\x00\x00\x05\x00\x01\x00\x00\x00\x00\x00\x03\xc0\x0c\x00",
		"a size among the answers":    head + one + none + none + question + size,
		"a size among the authority":  head + none + one + none + question + size,
		"an OPT with class 1 there":   head + one + none + none + question + strings.Replace(size, "\x02\x00", "\x00\x01", 1),
		"a size of 0":                 head + none + none + one + question + strings.Replace(size, "\x02\x00", "\x00\x00", 1),
		"an OPT of 0 in the answers":  head + one + none + none + question + strings.Replace(size, "\x02\x00", "\x00\x00", 1),
		"two sizes":                   head + none + none + two + question + size + size,
		"two sizes, apart":            head + none + none + "\x00\x03" + question + size + record + size,
		"a size with a name":          head + none + none + one + question + "\x01x" + size,
		"a size with a TTL":           head + none + none + one + question + "\x00\x00\x29\x02\x00\x00\x00\x00\x01\x00\x00",
		"a size with a high TTL":      head + none + none + one + question + "\x00\x00\x29\x02\x00\x01\x00\x00\x00\x00\x00",
		"a size with data":            head + none + none + one + question + "\x00\x00\x29\x02\x00\x00\x00\x00\x00\x00\x01a",
		"half a size":                 head + none + none + one + question + size[:10],
	} {
		got, err := message.Decode([]byte(b))
		if !errors.Is(err, api.ErrForm) || !same(got, api.Message{}) {
			t.Errorf("%s: Decode(%q) = %+v, %v", why, b, got, err)
		}
	}
}

func TestDecodeOfEachBeginning(t *testing.T) {
	for i := range len(fullBytes) {
		if got, err := message.Decode([]byte(fullBytes[:i])); !errors.Is(err, api.ErrForm) || !same(got, api.Message{}) {
			t.Errorf("the first %d bytes: %+v, %v", i, got, err)
		}
	}
	if got, err := message.Decode([]byte(fullBytes)); err != nil || !same(got, full()) {
		t.Errorf("%+v, %v", got, err)
	}
}

func TestDecodeOfTheLongest(t *testing.T) {
	for n, ok := range map[int]bool{4096: true, 4097: false} {
		m := ask("\x01x", api.A)
		left := n - 19
		for left > 0 {
			d := min(512, left-12)
			if 0 < left-12-d && left-12-d < 12 {
				d -= 12
			}
			m.Answer = append(m.Answer, api.Record{Name: "\x01x", Type: 99, Data: strings.Repeat("d", d)})
			left -= 12 + d
		}
		b, done := message.Encode(m, n)
		if !done || len(b) != n {
			t.Fatalf("%d bytes, not %d", len(b), n)
		}
		got, err := message.Decode(b)
		if ok && (err != nil || !same(got, m)) || !ok && (!errors.Is(err, api.ErrForm) || !same(got, api.Message{})) {
			t.Errorf("of %d bytes: %v", n, err)
		}
	}
}

func TestDecodeKeepsNothing(t *testing.T) {
	b := []byte(fullBytes)
	got, _ := message.Decode(b)
	for i := range b {
		if b[i] != fullBytes[i] {
			t.Fatal("Decode has changed its bytes")
		}
		b[i] = 0xee
	}
	if !same(got, full()) {
		t.Error("the message has changed with the bytes")
	}
}

func TestDecodeOfAnyBytes(t *testing.T) {
	x := uint32(1)
	for range 20000 {
		b := []byte(fullBytes)
		for range 1 + x>>30 {
			x = x*1664525 + 1013904223
			b[int(x>>8)%len(b)] = byte(x >> 24)
		}
		m, err := message.Decode(b)
		if err != nil {
			continue
		}
		if !message.May(m) {
			t.Fatalf("Decode(%q) = %+v, which may not be", b, m)
		}
		again, ok := message.Encode(m, math.MaxInt)
		if back, err := message.Decode(again); !ok || err != nil || !same(back, m) {
			t.Fatalf("%+v comes back as %+v", m, back)
		}
	}
}

// P5.4

func TestID(t *testing.T) {
	for _, c := range []struct {
		b    string
		want uint16
		ok   bool
	}{
		{"", 0, false},
		{"\x01", 0, false},
		{"\x01\x02", 0x0102, true},
		{"\xff\xfe\x07", 0xfffe, true},
		{"\x00\x00", 0, true},
		{fullBytes, 0x1234, true},
	} {
		if got, ok := message.ID([]byte(c.b)); got != c.want || ok != c.ok {
			t.Errorf("ID(%q) = %d, %v", c.b, got, ok)
		}
	}
	if got, ok := message.ID(nil); got != 0 || ok {
		t.Error(got, ok)
	}
}
