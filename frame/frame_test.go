package frame_test

import (
	"bytes"
	"strings"
	"testing"

	"bolter/frame"
)

// of is the frame of bytes, which has one.
func of(b string) string {
	out, ok := frame.Make([]byte(b))
	if !ok {
		panic(len(b))
	}
	return string(out)
}

// P22.1

func TestCheck(t *testing.T) {
	for b, want := range map[string]uint16{
		"":                          0,
		"\x00":                      0,
		"\x00\x00\x00":              0,
		"\x01":                      257,
		"a":                         97*256 + 97,
		"ab":                        (97+195)%255*256 + 195,
		"ba":                        (98+195)%255*256 + 195,
		"\x01\x00":                  2*256 + 1,
		"\x00\x01":                  257,
		"\xff":                      0,
		"\xfe":                      254*256 + 254,
		"\xfe\x01":                  254 * 256,
		"\xfe\x02":                  1,
		"\xff\x01":                  257,
		"\x80\x80":                  (128+1)*256 + 1,
		"abc":                       (97+195+39)%255*256 + 39,
		strings.Repeat("\x01", 600): 600*601/2%255*256 + 600%255,
	} {
		if got := frame.Check([]byte(b)); got != want {
			t.Errorf("Check(%q) = %d, want %d", b, got, want)
		}
	}
	if frame.Check(nil) != 0 {
		t.Error(frame.Check(nil))
	}
}

func TestCheckOfMany(t *testing.T) {
	b := bytes.Repeat([]byte("\xfe\x9c\x11\xff\x00"), 10000)
	s, u := 0, 0
	for _, c := range b {
		s = (s + int(c)) % 255
		u = (u + s) % 255
	}
	if got := frame.Check(b); int(got) != 256*u+s {
		t.Errorf("%d, want %d", got, 256*u+s)
	}
}

// P22.2

func TestMake(t *testing.T) {
	if frame.Most != 600 {
		t.Error(frame.Most)
	}
	for b, want := range map[string]string{
		"":                          "\x00\x00\xff\xff\x00\x00",
		"a":                         "\x00\x01\xff\xfeaaa",
		"ab":                        "\x00\x02\xff\xfdab\x25\xc3",
		strings.Repeat("\x00", 600): "\x02\x58\xfd\xa7" + strings.Repeat("\x00", 600) + "\x00\x00",
		strings.Repeat("\xff", 256): "\x01\x00\xfe\xff" + strings.Repeat("\xff", 256) + "\x00\x00",
	} {
		if got, ok := frame.Make([]byte(b)); string(got) != want || !ok {
			t.Errorf("Make(%q) = %q, %v", b, got, ok)
		}
	}
	for _, n := range []int{601, 602, 1000, 65536, 65537, 70000} {
		if got, ok := frame.Make(make([]byte, n)); len(got) != 0 || ok {
			t.Errorf("Make of %d bytes = %d bytes, %v", n, len(got), ok)
		}
	}
	if got, ok := frame.Make(nil); string(got) != "\x00\x00\xff\xff\x00\x00" || !ok {
		t.Errorf("%q, %v", got, ok)
	}
}

func TestCut(t *testing.T) {
	for _, b := range []string{"", "a", "ab", "\x00\xff", of("ab"), strings.Repeat("x", 599), strings.Repeat("y", 600)} {
		for _, rest := range []string{"", "z", of("q"), "\x00\x00\xff\xff\x00"} {
			got, behind, ok := frame.Cut([]byte(of(b) + rest))
			if string(got) != b || string(behind) != rest || !ok {
				t.Errorf("Cut of the frame of %q and %q = %q, %q, %v", b, rest, got, behind, ok)
			}
		}
	}
}

// noFrames are bytes that begin with none.
func noFrames() []string {
	out := []string{
		"", "\x00", "\x00\x00", "\x00\x00\xff", "\x00\x00\xff\xff", "\x00\x00\xff\xff\x00", "\x00\x00\x00\x00\x00\x00",
		"\x00\x00\xff\xff\x00\x01", "\x00\x00\xff\xff\x01\x00", "\x00\x00\xff\xfe\x00\x00", "\x00\x00\x7f\xff\x00\x00", "\x00\x01\xff\xffaaa", "\x00\x01\xff\xfeaab", "\x00\x01\xff\xfeaba", "\x00\x01\xff\xfebaa", "\x00\x02\xff\xfdabc",
		"\xff\xff\x00\x00" + strings.Repeat("\x00", 65537),
		"\x02\x59\xfd\xa6" + strings.Repeat("\x00", 601) + "\x00\x00", // as a frame would be, but one byte too many
		"z" + of("a"),
	}
	for _, b := range []string{"a", "abc", strings.Repeat("q", 600)} {
		f := of(b)
		for i := range f {
			out = append(out, f[:i], f[:i]+string([]byte{f[i] ^ 1})+f[i+1:], f[:i]+string([]byte{f[i] ^ 128})+f[i+1:])
		}
	}
	return out
}

func TestCutOfNone(t *testing.T) {
	for _, b := range noFrames() {
		if got, rest, ok := frame.Cut([]byte(b)); len(got) != 0 || len(rest) != 0 || ok {
			t.Errorf("Cut(%q) = %q, %q, %v", b, got, rest, ok)
		}
		if got, n := frame.All([]byte(b)); len(got) != 0 || n != 0 {
			t.Errorf("All(%q) = %q, %d", b, got, n)
		}
	}
}

func TestAll(t *testing.T) {
	for _, words := range [][]string{nil, {""}, {"a"}, {"a", "", "abc"}, {"", "", ""}, {strings.Repeat("x", 600), "y", strings.Repeat("z", 600)}} {
		b := ""
		for _, w := range words {
			b += of(w)
		}
		for _, rest := range noFrames() {
			got, n := frame.All([]byte(b + rest))
			if n != len(b) || len(got) != len(words) {
				t.Fatalf("All of %d frames and %q takes %d of %d bytes, as %q", len(words), rest, n, len(b), got)
			}
			for i, w := range words {
				if string(got[i]) != w {
					t.Errorf("frame %d is %q, not %q", i, got[i], w)
				}
			}
		}
	}
	if got, n := frame.All(nil); len(got) != 0 || n != 0 {
		t.Error(got, n)
	}
}

func TestAllEndsAtTheFirstThatIsNone(t *testing.T) {
	b := of("a") + of("b")[:6] + of("c") + of("d")
	if got, n := frame.All([]byte(b)); len(got) != 1 || n != 7 {
		t.Errorf("%q, %d", got, n)
	}
}

func TestNothingIsShared(t *testing.T) {
	in := []byte(of("abc") + of("def"))
	before := bytes.Clone(in)
	one, rest, _ := frame.Cut(in)
	all, _ := frame.All(in)
	for _, b := range [][]byte{one, rest, all[0], all[1]} {
		for i := range b {
			b[i] = '!'
		}
		_ = append(b, '!')
	}
	if !bytes.Equal(in, before) {
		t.Errorf("the bytes have become %q", in)
	}
	room := append(make([]byte, 0, 100), "abc"...)
	made, _ := frame.Make(room)
	made[4] = '!'
	if string(room) != "abc" || string(room[:10]) != "abc\x00\x00\x00\x00\x00\x00\x00" {
		t.Errorf("the bytes have become %q", room[:10])
	}
}
