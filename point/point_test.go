package point_test

import (
	"math"
	"slices"
	"strings"
	"testing"

	"bolter/api"
	"bolter/point"
)

// P3.1

func TestRead(t *testing.T) {
	l63 := strings.Repeat("y", 63)
	for _, c := range []struct {
		msg    string
		at     int
		want   api.Name
		behind int
	}{
		{"\x00", 0, "", 1},
		{"ab\x00cd", 2, "", 3},
		{"\x01a\x00", 0, "\x01a", 3},
		{"\x01a\x01b\x00zz", 0, "\x01a\x01b", 5},
		{"\x03WwW\x01X\x00", 0, "\x03www\x01x", 7},
		{"\x02\x00\xff\x00", 0, "\x02\x00\xff", 4},
		{"\x3f" + l63 + "\x00", 0, api.Name("\x3f" + l63), 65},
		// the example: a pointer to b.
		{"\x01a\x01b\x00\xc0\x02", 5, "\x01b", 7},
		{"\x01a\x01b\x00\xc0\x00", 5, "\x01a\x01b", 7},
		{"\x01a\x01b\x00\xc0\x04", 5, "", 7},
		// labels ahead of a pointer, and a pointer that leads to a pointer
		{"\x01B\x00\x01a\xc0\x00zz", 3, "\x01a\x01b", 7},
		{"\x01b\x00\xc0\x00\x01a\xc0\x03", 5, "\x01a\x01b", 9},
		{"\x01c\x00\x01b\xc0\x00\x01a\xc0\x03\x00", 7, "\x01a\x01b\x01c", 11},
		// what is read behind a pointer may reach the place where it began
		{"\x01c\x01b\x00", 2, "\x01b", 5},
		{"\x02bc\x00\x01a\xc0\x00", 4, "\x01a\x02bc", 8},
		{"\x03\xc0\x01x\x01a\x00", 0, "\x03\xc0\x01x\x01a", 7},
		// a pointer into a label, and to the last place ahead
		{"\x02\x01b\x00\xc0\x01", 4, "\x01b", 6},
		{"\x00\xc0\x00", 1, "", 3},
	} {
		if got, behind, ok := point.Read(c.msg, c.at); got != c.want || behind != c.behind || !ok {
			t.Errorf("Read(%q, %d) = %q, %d, %v, want %q, %d", c.msg, c.at, got, behind, ok, c.want, c.behind)
		}
	}
}

func TestReadOfFarPointers(t *testing.T) {
	// 0x3fff is as far as a pointer reaches.
	msg := strings.Repeat("\x00", 0x1234) + "\x01q\x00"
	msg += strings.Repeat("\x00", 0x3fff-len(msg)) + "\x01z\x00"
	at := len(msg)
	msg += "\x01a\xd2\x34" + "\xff\xff"
	if got, behind, ok := point.Read(msg, at); got != "\x01a\x01q" || behind != at+4 || !ok {
		t.Errorf("%q, %d, %v", got, behind, ok)
	}
	if got, behind, ok := point.Read(msg, at+4); got != "\x01z" || behind != at+6 || !ok {
		t.Errorf("%q, %d, %v", got, behind, ok)
	}
}

func TestReadOfNoName(t *testing.T) {
	l63 := "\x3f" + strings.Repeat("y", 63)
	for _, c := range []struct {
		why string
		msg string
		at  int
	}{
		{"nothing there", "", 0},
		{"behind the end", "\x00", 1},
		{"far behind the end", "\x00", math.MaxInt},
		{"ahead of the beginning", "\x00\x00", -1},
		{"far ahead of the beginning", "\x00\x00", math.MinInt},
		{"no end", "\x01a", 0},
		{"no byte behind the label", "\x00\x02ab", 1},
		{"a label cut off", "\x03ab", 0},
		{"a label cut off by one", "\x03abc", 0},
		{"a length of 64", "\x40" + strings.Repeat("y", 64) + "\x00", 0},
		{"a length of 127", "\x7f" + strings.Repeat("y", 127) + "\x00", 0},
		{"a length of 128", "\x80" + strings.Repeat("y", 128) + "\x00", 0},
		{"a length of 191", "\xbf" + strings.Repeat("y", 191) + "\x00", 0},
		{"a length of 64 behind a label", "\x01a\x40\x00", 0},
		{"half a pointer", "\x00\xc0", 1},
		{"half a pointer behind a label", "\x00\x01a\xc0", 1},
		{"a pointer to itself", "\x00\xc0\x01", 1},
		{"a pointer to its name", "\x01a\xc0\x00", 0},
		{"a pointer to a label of its name", "\x01a\x01b\xc0\x02", 0},
		{"a pointer ahead of its place, behind its name's", "\x00\x01a\x01b\xc0\x03", 1},
		{"a pointer further on", "\x00\xc0\x03\x00", 1},
		{"a pointer behind the end", "\x00\xff\xff", 1},
		{"pointers to one another", "\xc0\x02\xc0\x00", 2},
		{"pointers to one another, from the first one", "\xc0\x02\xc0\x00", 0},
		{"a second pointer to where the first one led", "\x01a\xc0\x00\xc0\x00", 4},
		{"a second pointer further on", "\x00\x00\xc0\x03\x00\x00\xc0\x02", 6},
		{"a second pointer to a greater place", "\x01a\x01b\xc0\x02\xc0\x02", 6},
		{"a name behind a pointer without an end", "\x01b\xc0\x00\x01", 2},
		{"255 bytes", strings.Repeat(l63, 3) + "\x3e" + strings.Repeat("y", 62) + "\x00", 0},
		{"128 labels", strings.Repeat("\x01a", 128) + "\x00", 0},
		{"too long by a pointer", strings.Repeat(l63, 3) + "\x00" + "\x3e" + strings.Repeat("y", 62) + "\xc0\x00", 193},
	} {
		if got, behind, ok := point.Read(c.msg, c.at); got != "" || behind != 0 || ok {
			t.Errorf("%s: Read(%q, %d) = %q, %d, %v", c.why, c.msg, c.at, got, behind, ok)
		}
	}
}

func TestReadOfTheLongest(t *testing.T) {
	l63 := "\x3f" + strings.Repeat("y", 63)
	n := strings.Repeat(l63, 3) + "\x3d" + strings.Repeat("y", 61)
	if got, behind, ok := point.Read(n+"\x00", 0); string(got) != n || behind != 255 || !ok {
		t.Errorf("%q, %d, %v", got, behind, ok)
	}
	msg := strings.Repeat(l63, 3) + "\x00" + "\x3d" + strings.Repeat("y", 61) + "\xc0\x00"
	if got, behind, ok := point.Read(msg, 193); len(got) != 254 || behind != 193+64 || !ok {
		t.Errorf("%q, %d, %v", got, behind, ok)
	}
}

func TestReadOfManyPointers(t *testing.T) {
	// Each one leads to the one ahead of it: 8000 of them, and a label between is read once.
	msg := "\x01a\x00\x00"
	for i := range 8000 {
		to := max(0, 2+2*i)
		if i == 0 {
			to = 0
		}
		msg += string([]byte{byte(0xc0 | to>>8), byte(to)})
	}
	if got, behind, ok := point.Read(msg, len(msg)-2); got != "\x01a" || behind != len(msg) || !ok {
		t.Errorf("%q, %d, %v", got, behind, ok)
	}
}

// P3.2

func TestWriter(t *testing.T) {
	for _, c := range []struct {
		names []api.Name
		want  string
	}{
		{nil, ""},
		{[]api.Name{""}, "\x00"},
		{[]api.Name{"", ""}, "\x00\x00"},
		{[]api.Name{"\x01a\x01b", "\x01b"}, "\x01a\x01b\x00\xc0\x02"},
		{[]api.Name{"\x01a\x01b", "\x01a\x01b"}, "\x01a\x01b\x00\xc0\x00"},
		{[]api.Name{"\x01b", "\x01a\x01b", "\x01a\x01b", "\x01c\x01a\x01b"}, "\x01b\x00\x01a\xc0\x00\xc0\x03\x01c\xc0\x03"},
		{[]api.Name{"\x01a\x01b", "\x01a"}, "\x01a\x01b\x00\x01a\x00"},
		{[]api.Name{"\x01a\x01b", "\x01a\x01c", "\x01c"}, "\x01a\x01b\x00\x01a\x01c\x00\xc0\x07"},
		{[]api.Name{"\x01a\x01a\x01a", "\x01a\x01a", "\x01a", "\x01a\x01a\x01a\x01a"}, "\x01a\x01a\x01a\x00\xc0\x02\xc0\x04\x01a\xc0\x00"},
		// the first place of several: a name that is a pointer alone is not pointed to
		{[]api.Name{"\x01b", "\x01b", "\x01b", "\x01a\x01b"}, "\x01b\x00\xc0\x00\xc0\x00\x01a\xc0\x00"},
		// bytes that look like the end of a name
		{[]api.Name{"\x03a\x01b", "\x01b"}, "\x03a\x01b\x00\x01b\x00"},
		// no names
		{[]api.Name{"a", "\x01A", "\x01a\x00", "\x02a", api.Name(strings.Repeat("\x01a", 128))}, ""},
		{[]api.Name{"\x01a\x01B", "\x01a", "\x01a\x01b"}, "\x01a\x00\x01a\x01b\x00"},
	} {
		w := &point.Writer{}
		for _, n := range c.names {
			w.Name(n)
		}
		if string(w.Bytes) != c.want {
			t.Errorf("%q are written as %q, want %q", c.names, w.Bytes, c.want)
		}
	}
}

func TestWriterWritesBehindItsBytes(t *testing.T) {
	w := &point.Writer{Bytes: []byte("\x01b\x00")}
	w.Name("\x01b") // other bytes are not known
	w.Bytes = append(w.Bytes, "\x01c\x00"...)
	w.Name("\x01c\x01b")
	w.Name("\x01c")
	if string(w.Bytes) != "\x01b\x00\x01b\x00\x01c\x00\x01c\xc0\x03\x01c\x00" {
		t.Errorf("%q", w.Bytes)
	}
}

func TestWritersDoNotKnowOneAnother(t *testing.T) {
	a, b := &point.Writer{}, &point.Writer{}
	a.Name("\x01x")
	b.Name("\x01x")
	if string(b.Bytes) != "\x01x\x00" {
		t.Errorf("%q", b.Bytes)
	}
}

func TestWriterAtTheReachOfPointers(t *testing.T) {
	for _, c := range []struct {
		ahead int
		names []api.Name
		want  string
	}{
		{16383, []api.Name{"\x01a", "\x01a"}, "\x01a\x00\xff\xff"},
		{16384, []api.Name{"\x01a", "\x01a"}, "\x01a\x00\x01a\x00"},
		{16382, []api.Name{"\x01a\x01b", "\x01b", "\x01a\x01b"}, "\x01a\x01b\x00\x01b\x00\xff\xfe"},
		{16381, []api.Name{"\x01a\x01b", "\x01b", "\x01a\x01b"}, "\x01a\x01b\x00\xff\xff\xff\xfd"},
		{20000, []api.Name{"\x01a", "\x01a", "\x01a"}, "\x01a\x00\x01a\x00\x01a\x00"},
		{256, []api.Name{"\x01a", "\x01a"}, "\x01a\x00\xc1\x00"},
		{0x1234, []api.Name{"\x01a", "\x01a"}, "\x01a\x00\xd2\x34"},
	} {
		w := &point.Writer{Bytes: make([]byte, c.ahead)}
		for _, n := range c.names {
			w.Name(n)
		}
		if string(w.Bytes[c.ahead:]) != c.want {
			t.Errorf("from %d on %q are written as %q, want %q", c.ahead, c.names, w.Bytes[c.ahead:], c.want)
		}
	}
}

func TestWhatIsWrittenIsRead(t *testing.T) {
	var names []api.Name
	for i := range 300 {
		var n api.Name
		for k := range i % 7 {
			n = api.Name([]byte{1, byte('a' + (i/(k+1))%5)}) + n
		}
		names = append(names, n)
	}
	w := &point.Writer{Bytes: make([]byte, 12)}
	var places []int
	for _, n := range names {
		places = append(places, len(w.Bytes))
		w.Name(n)
	}
	places = append(places, len(w.Bytes))
	var read []api.Name
	for i := range names {
		n, behind, ok := point.Read(string(w.Bytes), places[i])
		if !ok || behind != places[i+1] {
			t.Fatalf("the name at %d is read up to %d, %v", places[i], behind, ok)
		}
		read = append(read, n)
	}
	if !slices.Equal(read, names) {
		t.Error("other names are read")
	}
}

// P3.3

func TestPlain(t *testing.T) {
	for n, want := range map[api.Name]string{"": "\x00", "\x01a": "\x01a\x00", "\x01a\x02bc": "\x01a\x02bc\x00"} {
		if got := point.Plain(n); got != want {
			t.Errorf("Plain(%q) = %q", n, got)
		}
	}
}

func TestCut(t *testing.T) {
	for _, c := range []struct {
		s    string
		want api.Name
		rest string
	}{
		{"\x00", "", ""},
		{"\x00\x01a\x00", "", "\x01a\x00"},
		{"\x01a\x00", "\x01a", ""},
		{"\x01a\x02bc\x00rest", "\x01a\x02bc", "rest"},
		{"\x01a\x00\x00\x00", "\x01a", "\x00\x00"},
		{"\x02\x00\xff\x00A", "\x02\x00\xff", "A"},
		{strings.Repeat("\x01a", 127) + "\x00", api.Name(strings.Repeat("\x01a", 127)), ""},
	} {
		if got, rest, ok := point.Cut(c.s); got != c.want || rest != c.rest || !ok {
			t.Errorf("Cut(%q) = %q, %q, %v", c.s, got, rest, ok)
		}
	}
	for _, s := range []string{
		"", "a", "\x01", "\x01a", "\x02a\x00", "\x01A\x00", "\x01a\x01B\x00", "\x40" + strings.Repeat("a", 64) + "\x00", "\xc0\x00\x00",
		"\x00\xc0\x00"[1:], strings.Repeat("\x01a", 128) + "\x00", strings.Repeat("\x01a", 50000), strings.Repeat("\xff", 50000),
	} {
		if got, rest, ok := point.Cut(s); got != "" || rest != "" || ok {
			t.Errorf("Cut(%q) = %q, %q, %v", s, got, rest, ok)
		}
	}
}
