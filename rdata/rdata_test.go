package rdata_test

import (
	"math"
	"strings"
	"testing"

	"bolter/api"
	"bolter/point"
	"bolter/rdata"
)

const tail = "abcdefghijklmnopqrst" // the twenty bytes of an SOA

func some(size int) string { return strings.Repeat("x", size) }

func texts(sizes ...int) string {
	out := ""
	for _, n := range sizes {
		out += string([]byte{byte(n)}) + some(n)
	}
	return out
}

// data are data that may be of a type, and such as may not.
func data() []struct {
	t  api.Type
	d  string
	ok bool
} {
	longest := strings.Repeat("\x01x", 127)
	return []struct {
		t  api.Type
		d  string
		ok bool
	}{
		{api.A, "\x00\x01\xff\x40", true},
		{api.A, "", false},
		{api.A, "abc", false},
		{api.A, "abcde", false},
		{api.A, some(16), false},
		{api.AAAA, some(16), true},
		{api.AAAA, some(4), false},
		{api.AAAA, some(15), false},
		{api.AAAA, some(17), false},
		{api.AAAA, "", false},
		{api.NS, "", true},
		{api.NS, "\x01a\x02bc", true},
		{api.NS, longest, true},
		{api.NS, longest + "\x01x", false},
		{api.NS, "\x01a\x00", false},
		{api.NS, "\x01A", false},
		{api.NS, "a", false},
		{api.CNAME, "", true},
		{api.CNAME, "\x01*\x02bc", true},
		{api.CNAME, "\x01a\x00", false},
		{api.CNAME, "\x02a", false},
		{api.CNAME, "\x01Q", false},
		{api.SOA, "\x00\x00" + tail, true},
		{api.SOA, "\x01a\x00\x01b\x01c\x00" + tail, true},
		{api.SOA, longest + "\x00" + longest + "\x00" + tail, true},
		{api.SOA, "", false},
		{api.SOA, "\x00", false},
		{api.SOA, "\x00\x00", false},
		{api.SOA, "\x00\x00" + tail[1:], false},
		{api.SOA, "\x00\x00" + tail + "u", false},
		{api.SOA, "\x01A\x00\x00" + tail, false},
		{api.SOA, "\x00\x01A\x00" + tail, false},
		{api.SOA, "\x01a\x01b\x00" + tail, false},
		{api.SOA, longest + "\x01x\x00\x00" + tail, false},
		{api.SOA, "\xc0\x00\x00" + tail, false},
		{api.TXT, "\x00", true},
		{api.TXT, "\x00\x00", true},
		{api.TXT, "\x03abc", true},
		{api.TXT, texts(3, 0, 1), true},
		{api.TXT, texts(255, 255), true},
		{api.TXT, texts(255, 254), true},
		{api.TXT, texts(255, 255, 0), false},
		{api.TXT, texts(255, 255) + "\x01a", false},
		{api.TXT, texts(200, 200, 200), false},
		{api.TXT, "", false},
		{api.TXT, "\x01", false},
		{api.TXT, "\x02a", false},
		{api.TXT, "\x01ab", false},
		{api.TXT, "\x03abc\x05defg", false},
		{api.OPT, "", true},
		{api.OPT, some(512), true},
		{api.OPT, some(513), false},
		{99, "", true},
		{99, "\x00\xc0\x00A", true},
		{99, some(512), true},
		{99, some(513), false},
		{0, some(511), true},
		{65535, some(600), false},
		{api.AXFR, "ab", true},
		{api.IXFR, some(513), false},
		{15, "\x00\x01\x01A\x00", true}, // names of other types are bytes as others are
	}
}

// P4.1

func TestMay(t *testing.T) {
	for _, c := range data() {
		if got := rdata.May(c.t, c.d); got != c.ok {
			t.Errorf("May(%d, %q) = %v", c.t, c.d, got)
		}
	}
}

// P4.2

func TestReadOfPlainData(t *testing.T) {
	for _, c := range data() {
		if c.t == api.NS || c.t == api.CNAME || c.t == api.SOA {
			continue
		}
		for _, around := range [][2]string{{"", ""}, {"ab", "yz"}} {
			msg := around[0] + c.d + around[1]
			got, ok := rdata.Read(msg, len(around[0]), len(c.d), c.t)
			want := c.d
			if !c.ok {
				want = ""
			}
			if got != want || ok != c.ok {
				t.Errorf("Read(%q, %d, %d, %d) = %q, %v", msg, len(around[0]), len(c.d), c.t, got, ok)
			}
		}
	}
}

func TestReadOfNames(t *testing.T) {
	const msg = "\x01b\x00\x03WwW\xc0\x00\x01a\x00z"
	for _, c := range []struct {
		at, n int
		want  string
		ok    bool
	}{
		{0, 3, "\x01b", true},
		{2, 1, "", true},
		{3, 6, "\x03www\x01b", true},
		{7, 2, "\x01b", true},
		{9, 3, "\x01a", true},
		{3, 5, "", false}, // the name ends behind
		{3, 7, "", false}, // the name ends ahead
		{3, 4, "", false},
		{0, 2, "", false},
		{0, 4, "", false},
		{0, 0, "", false},
		{9, 4, "", false},
		{12, 1, "", false}, // no name
		{13, 0, "", false},
	} {
		for _, typ := range []api.Type{api.NS, api.CNAME} {
			if got, ok := rdata.Read(msg, c.at, c.n, typ); got != c.want || ok != c.ok {
				t.Errorf("Read(%q, %d, %d, %d) = %q, %v", msg, c.at, c.n, typ, got, ok)
			}
		}
	}
}

func TestReadOfSoa(t *testing.T) {
	const msg = "\x01b\x00" + "\x01A\xc0\x00\xc0\x03" + tail + "z"
	const end = 3 + 6 + 20
	for _, c := range []struct {
		msg   string
		at, n int
		want  string
		ok    bool
	}{
		{msg, 3, 26, "\x01a\x01b\x00\x01a\x01b\x00" + tail, true},
		{msg[:end], 3, 26, "\x01a\x01b\x00\x01a\x01b\x00" + tail, true},
		{"\x00\x00" + tail, 0, 22, "\x00\x00" + tail, true},
		{"\x01Q\x00\x02rS\x01t\x00" + tail, 0, 29, "\x01q\x00\x02rs\x01t\x00" + tail, true},
		{msg, 3, 25, "", false},
		{msg, 3, 27, "", false},
		{msg, 3, 4, "", false},
		{msg, 3, 6, "", false},
		{msg, 3, 0, "", false},
		{msg[:end-1], 3, 26, "", false},
		{"\x00\xc0\x01" + tail, 0, 23, "", false}, // the second name leads to itself
		{"\xc0\x00\x00" + tail, 0, 23, "", false}, // the first one does
		{"\x00\x40" + tail[1:], 1, 20, "", false}, // no first name, but one at the message's beginning
		{"\x00", 0, 1, "", false},
		{"\x00\x00", 0, 2, "", false},
	} {
		if got, ok := rdata.Read(c.msg, c.at, c.n, api.SOA); got != c.want || ok != c.ok {
			t.Errorf("Read(%q, %d, %d, SOA) = %q, %v", c.msg, c.at, c.n, got, ok)
		}
	}
}

func TestReadOfBytesThatAreNotThere(t *testing.T) {
	msg := "\x01a\x00" + "\xc0\x00\xc0\x00" + tail + texts(255, 255, 255)
	for _, typ := range []api.Type{api.A, api.AAAA, api.NS, api.CNAME, api.SOA, api.TXT, api.OPT, 99} {
		for _, c := range [][2]int{
			{-1, 4}, {-1, 1}, {-1, 0}, {0, -1}, {2, -1}, {len(msg) + 1, 0}, {len(msg) + 1, -1}, {len(msg), 1}, {len(msg) - 3, 4}, {len(msg) - 15, 16},
			{math.MaxInt, 1}, {math.MaxInt, math.MaxInt}, {1, math.MaxInt}, {math.MinInt, math.MinInt}, {math.MinInt, 4}, {4, math.MinInt}, {len(msg) - 100, 101},
		} {
			if got, ok := rdata.Read(msg, c[0], c[1], typ); got != "" || ok {
				t.Errorf("Read(.., %d, %d, %d) = %q, %v", c[0], c[1], typ, got, ok)
			}
		}
	}
	if got, ok := rdata.Read("ab", 2, 0, 99); got != "" || !ok {
		t.Errorf("no bytes at the end: %q, %v", got, ok)
	}
}

// P4.3

func TestWrite(t *testing.T) {
	for _, c := range data() {
		w := &point.Writer{Bytes: []byte("head")}
		rdata.Write(w, c.t, c.d)
		if !c.ok {
			if string(w.Bytes) != "head" {
				t.Errorf("Write(.., %d, %q) writes %q", c.t, c.d, w.Bytes[4:])
			}
			continue
		}
		msg := string(w.Bytes)
		if len(msg) < 6 || msg[:4] != "head" || int(msg[4])<<8+int(msg[5]) != len(msg)-6 {
			t.Errorf("Write(.., %d, %q) writes %q", c.t, c.d, msg)
			continue
		}
		if got, ok := rdata.Read(msg, 6, len(msg)-6, c.t); got != c.d || !ok {
			t.Errorf("Write(.., %d, %q) writes %q", c.t, c.d, msg)
		}
	}
}

func TestWriteByBytes(t *testing.T) {
	for _, c := range []struct {
		known api.Name
		t     api.Type
		d     string
		want  string
	}{
		{"\x01a", api.CNAME, "\x01a", "\x00\x02\xc0\x03"},
		{"\x01a", api.NS, "\x01b\x01a", "\x00\x04\x01b\xc0\x03"},
		{"\x01a", api.NS, "\x01c", "\x00\x03\x01c\x00"},
		{"\x01a", api.NS, "", "\x00\x01\x00"},
		{"\x01a", api.SOA, "\x01a\x00\x01b\x01a\x00" + tail, "\x00\x1a\xc0\x03\x01b\xc0\x03" + tail},
		{"\x01a", api.SOA, "\x01q\x00\x01b\x01q\x00" + tail, "\x00\x1b\x01q\x00\x01b\xc0\x08" + tail},
		{"\x01a", api.A, "\x01\x02\x03\x04", "\x00\x04\x01\x02\x03\x04"},
		{"\x01a", 99, "\x01a\x00", "\x00\x03\x01a\x00"},
		{"\x01a", 99, "", "\x00\x00"},
		{"\x01a", api.TXT, "\x02ab", "\x00\x03\x02ab"},
		{"\x01a", 99, some(512), "\x02\x00" + some(512)},
		{"\x01a", api.TXT, texts(255), "\x01\x00" + texts(255)},
	} {
		w := &point.Writer{Bytes: []byte("abc")}
		w.Name(c.known)
		rdata.Write(w, c.t, c.d)
		if got := string(w.Bytes[6:]); got != c.want {
			t.Errorf("Write(.., %d, %q) writes %q, want %q", c.t, c.d, got, c.want)
		}
	}
}

func TestWrittenNamesAreKnown(t *testing.T) {
	w := &point.Writer{}
	rdata.Write(w, api.NS, "\x01x\x01y")
	rdata.Write(w, api.CNAME, "\x01y")
	w.Name("\x01x\x01y")
	if got := string(w.Bytes); got != "\x00\x05\x01x\x01y\x00"+"\x00\x02\xc0\x04"+"\xc0\x02" {
		t.Errorf("%q", got)
	}
}
