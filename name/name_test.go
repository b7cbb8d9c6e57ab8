package name_test

import (
	"slices"
	"strings"
	"testing"

	"bolter/api"
	"bolter/name"
)

// label is a label of so many bytes; long is a name of so many bytes.
func label(size int) string { return strings.Repeat("x", size) }

func long(size int) api.Name {
	var out api.Name
	for size > 0 {
		n := min(size-1, 63)
		if size-1-n == 1 { // a length alone would be left over
			n--
		}
		out += api.Name([]byte{byte(n)}) + api.Name(label(n))
		size -= n + 1
	}
	return out
}

// noNames are strings that are no names.
func noNames() []api.Name {
	return []api.Name{
		"\x00", "a", "\x01", "\x02a", "\x01a\x00", "\x01a\x01", "\x01a\x02b", "\x01A", "\x01Z", "\x02aM", "\x01a\x01B",
		api.Name("\x40" + label(64)), api.Name("\xff" + label(255)), "\xc0\x00", "\x01a\x00\x01b",
		long(255), long(256), long(400),
	}
}

// P2.1

func TestFold(t *testing.T) {
	for c := range 256 {
		want := byte(c)
		if strings.IndexByte("ABCDEFGHIJKLMNOPQRSTUVWXYZ", byte(c)) >= 0 {
			want = strings.ToLower(string([]byte{byte(c)}))[0]
		}
		if got := name.Fold(byte(c)); got != want {
			t.Errorf("Fold(%d) = %d, want %d", c, got, want)
		}
	}
}

func TestMake(t *testing.T) {
	for _, c := range []struct {
		labels []string
		want   api.Name
		ok     bool
	}{
		{nil, "", true},
		{[]string{"WWW", "x"}, "\x03www\x01x", true},
		{[]string{"aZ", "Q", "bAz"}, "\x02az\x01q\x03baz", true},
		{[]string{"@[`{", "\x00\xff.\x80"}, "\x04@[`{\x04\x00\xff.\x80", true},
		{[]string{"a.b"}, "\x03a.b", true},
		{[]string{label(63)}, api.Name("\x3f" + label(63)), true},
		{[]string{label(64)}, "", false},
		{[]string{label(1000)}, "", false},
		{[]string{label(256 + 5)}, "", false},
		{[]string{""}, "", false},
		{[]string{"a", "", "b"}, "", false},
		{[]string{"a", ""}, "", false},
		{[]string{"a", label(64)}, "", false},
		{[]string{label(63), label(63), label(63), label(61)}, long(254), true},
		{[]string{label(63), label(63), label(63), label(62)}, "", false},
		{[]string{label(63), label(63), label(63), label(60), "x"}, "", false},
		{[]string{label(63), label(63), label(63), label(59), "x"}, api.Name(strings.Repeat("\x3f"+label(63), 3) + "\x3b" + label(59) + "\x01x"), true},
		{[]string{label(63), label(63), label(63), label(63), label(63)}, "", false},
		{strings.Split(strings.Repeat("x", 127), ""), api.Name(strings.Repeat("\x01x", 127)), true},
		{strings.Split(strings.Repeat("x", 128), ""), "", false},
	} {
		if got, ok := name.Make(c.labels...); got != c.want || ok != c.ok {
			t.Errorf("Make(%q) = %q, %v, want %q, %v", c.labels, got, ok, c.want, c.ok)
		}
	}
}

func TestMakeLeavesItsLabelsAlone(t *testing.T) {
	ls := []string{"WWW", "X"}
	name.Make(ls...)
	if !slices.Equal(ls, []string{"WWW", "X"}) {
		t.Error(ls)
	}
}

func TestLabels(t *testing.T) {
	for _, c := range []struct {
		n    api.Name
		want []string
	}{
		{"", nil},
		{"\x01a", []string{"a"}},
		{"\x03www\x01x", []string{"www", "x"}},
		{"\x02\x01a\x01b", []string{"\x01a", "b"}},
		{"\x02.\x00\x01\xff", []string{".\x00", "\xff"}},
		{"\x04@[`{", []string{"@[`{"}},
		{api.Name("\x3f" + label(63)), []string{label(63)}},
		{long(254), []string{label(63), label(63), label(63), label(61)}},
		{api.Name(strings.Repeat("\x01x", 127)), strings.Split(label(127), "")},
	} {
		got, ok := name.Labels(c.n)
		if !ok || !slices.Equal(got, c.want) {
			t.Errorf("Labels(%q) = %q, %v", c.n, got, ok)
		}
		if !name.May(c.n) {
			t.Errorf("May(%q) is false", c.n)
		}
		if got := name.Count(c.n); got != len(c.want) {
			t.Errorf("Count(%q) = %d", c.n, got)
		}
		if back, ok := name.Make(got...); back != c.n || !ok {
			t.Errorf("Make of the labels of %q = %q, %v", c.n, back, ok)
		}
	}
}

func TestNoNames(t *testing.T) {
	for _, n := range noNames() {
		if got, ok := name.Labels(n); len(got) != 0 || ok {
			t.Errorf("Labels(%q) = %q, %v", n, got, ok)
		}
		if name.May(n) {
			t.Errorf("May(%q) is true", n)
		}
		if got := name.Count(n); got != 0 {
			t.Errorf("Count(%q) = %d", n, got)
		}
		if got := name.Text(n); got != "" {
			t.Errorf("Text(%q) = %q", n, got)
		}
		if got, ok := name.Parent(n); got != "" || ok {
			t.Errorf("Parent(%q) = %q, %v", n, got, ok)
		}
		for _, other := range []api.Name{n, "", "\x01a"} {
			for _, pair := range [][2]api.Name{{n, other}, {other, n}} {
				if name.Below(pair[0], pair[1]) {
					t.Errorf("Below(%q, %q) is true", pair[0], pair[1])
				}
				if got, ok := name.Strip(pair[0], pair[1]); got != "" || ok {
					t.Errorf("Strip(%q, %q) = %q, %v", pair[0], pair[1], got, ok)
				}
				if got, ok := name.Join(pair[0], pair[1]); got != "" || ok {
					t.Errorf("Join(%q, %q) = %q, %v", pair[0], pair[1], got, ok)
				}
			}
		}
	}
}

// P2.2

func TestText(t *testing.T) {
	for _, c := range []struct {
		n    api.Name
		text string
	}{
		{"", "."},
		{"\x01a", "a."},
		{"\x03www\x01x", "www.x."},
		{"\x07-_*azmn\x020\x35", "-_*azmn.05."},
		{"\x0209", "09."},
		{"\x01.", `\046.`},
		{"\x01\\", `\092.`},
		{"\x03\x00\x01\xff", `\000\001\255.`},
		{"\x04@[`{", `\064\091\096\123.`},
		{"\x04/:+,", `\047\058\043\044.`},
		{"\x02\x09\x0a", `\009\010.`},
		{"\x03\x63\x64\xc8", `cd\200.`},
		{"\x02a \x01c", `a\032.c.`},
		{"\x02\xc3\xa9", `\195\169.`},
		{api.Name("\x3f" + label(63)), label(63) + "."},
	} {
		if got := name.Text(c.n); got != c.text {
			t.Errorf("Text(%q) = %q, want %q", c.n, got, c.text)
		}
		if got, ok := name.Parse(c.text); got != c.n || !ok {
			t.Errorf("Parse(%q) = %q, %v, want %q", c.text, got, ok, c.n)
		}
	}
}

func TestTextOfEachByte(t *testing.T) {
	const plain = "abcdefghijklmnopqrstuvwxyz0123456789-_*"
	for c := range 256 {
		if 'A' <= c && c <= 'Z' {
			continue
		}
		n := api.Name([]byte{1, byte(c)})
		want := string([]byte{byte(c)}) + "."
		if strings.IndexByte(plain, byte(c)) < 0 {
			want = string([]byte{'\\', byte('0' + c/100), byte('0' + c/10%10), byte('0' + c%10), '.'})
		}
		if got := name.Text(n); got != want {
			t.Errorf("Text(%q) = %q, want %q", n, got, want)
		}
		if got, ok := name.Parse(want); got != n || !ok {
			t.Errorf("Parse(%q) = %q, %v", want, got, ok)
		}
	}
}

func TestParseOfNoText(t *testing.T) {
	for _, s := range []string{
		"", "a", "a.b", "..", ".a.", "a..", "a..b.", ".a", " ", "A.", "aB.", "www.X.",
		`\097.`, `\065.`, `\045.`, `\048.`, `\256.`, `\302.`, `\999.`, `\46.`, `\4.`, `\.`, `\`, `a\`, `\04a.`, `\0460`, `\046`, `\x2e.`,
		"a b.", "é.", "a\x00.", "@.", `\\.`, `\:46.`, `\/46.`,
		label(64) + ".", label(63) + "." + label(63) + "." + label(63) + "." + label(62) + ".",
		strings.Repeat("x.", 128), strings.Repeat("x.", 5000), strings.Repeat(".", 5000), strings.Repeat("\\", 5000),
	} {
		if got, ok := name.Parse(s); got != "" || ok {
			t.Errorf("Parse(%q) = %q, %v", s, got, ok)
		}
	}
}

func TestParseOfTheLongest(t *testing.T) {
	for _, n := range []api.Name{long(254), api.Name(strings.Repeat("\x01.", 127)), api.Name(strings.Repeat("\x01x", 127))} {
		if got, ok := name.Parse(name.Text(n)); got != n || !ok {
			t.Errorf("Parse(Text(%q)) = %q, %v", n, got, ok)
		}
	}
}

// P2.3

func TestParent(t *testing.T) {
	for _, c := range []struct {
		n, want api.Name
		ok      bool
	}{
		{"", "", false},
		{"\x01a", "", true},
		{"\x03www\x01x", "\x01x", true},
		{"\x02ab\x03cde\x01f", "\x03cde\x01f", true},
		{"\x02\x01a\x01b", "\x01b", true},
		{api.Name("\x3f" + label(63) + "\x01y"), "\x01y", true},
	} {
		if got, ok := name.Parent(c.n); got != c.want || ok != c.ok {
			t.Errorf("Parent(%q) = %q, %v, want %q, %v", c.n, got, ok, c.want, c.ok)
		}
	}
}

func TestBelowAndStrip(t *testing.T) {
	for _, c := range []struct {
		n, on, want api.Name
		ok          bool
	}{
		{"", "", "", true},
		{"\x01a", "", "\x01a", true},
		{"\x01a", "\x01a", "", true},
		{"\x03www\x01x", "\x01x", "\x03www", true},
		{"\x03www\x01x", "\x03www\x01x", "", true},
		{"\x01a\x01b\x01c", "\x01c", "\x01a\x01b", true},
		{"\x01a\x01b\x01c", "\x01b\x01c", "\x01a", true},
		{"\x01x\x01x\x01x", "\x01x", "\x01x\x01x", true},
		{"\x01a\x01b\x01c", "\x01b", "", false},
		{"\x01a\x01b\x01c", "\x01a", "", false},
		{"", "\x01a", "", false},
		{"\x01x", "\x03www\x01x", "", false},
		{"\x02ax", "\x01x", "", false},
		// the bytes of one label look like the end of a name
		{"\x03a\x01x", "\x01x", "", false},
		{"\x04\x02ab\x01", "\x02ab\x01", "", false},
		{"\x05a\x01b\x01c", "\x01c", "", false},
		{"\x01b", "\x01a", "", false},
	} {
		if got := name.Below(c.n, c.on); got != c.ok {
			t.Errorf("Below(%q, %q) = %v", c.n, c.on, got)
		}
		if got, ok := name.Strip(c.n, c.on); got != c.want || ok != c.ok {
			t.Errorf("Strip(%q, %q) = %q, %v, want %q, %v", c.n, c.on, got, ok, c.want, c.ok)
		}
	}
}

func TestJoin(t *testing.T) {
	for _, c := range []struct {
		n, on, want api.Name
		ok          bool
	}{
		{"", "", "", true},
		{"\x01a", "", "\x01a", true},
		{"", "\x01a", "\x01a", true},
		{"\x01a\x02bc", "\x01d", "\x01a\x02bc\x01d", true},
		{long(252), "\x01a", long(252) + "\x01a", true},
		{"\x01a", long(252), "\x01a" + long(252), true},
		{long(253), "\x01a", "", false},
		{"\x01a", long(253), "", false},
		{long(254), "", long(254), true},
		{"", long(254), long(254), true},
		{long(254), long(254), "", false},
	} {
		if got, ok := name.Join(c.n, c.on); got != c.want || ok != c.ok {
			t.Errorf("Join(%q, %q) = %q, %v, want %q, %v", c.n, c.on, got, ok, c.want, c.ok)
		}
		if c.ok {
			if got, ok := name.Strip(c.want, c.on); got != c.n || !ok {
				t.Errorf("Strip(%q, %q) = %q, %v", c.want, c.on, got, ok)
			}
		}
	}
}
