package prefix_test

import (
	"math"
	"strings"
	"testing"

	"bolter/api"
	"bolter/prefix"
)

const (
	v4 = "\xc0\x00\x02\x07"
	v6 = "\x20\x01\x0d\xb8\xff\xff\xff\xff\x00\x00\x00\x00\x12\x34\x56\x78"
)

func some(size int) string { return strings.Repeat("x", size) }

// bit is a bit of an address, the first one of its first byte being 0.
func bit(a string, i int) bool { return a[i/8]&(128>>(i%8)) != 0 }

// P12.1

func TestAddress(t *testing.T) {
	for n := range 40 {
		if got := prefix.Address(some(n)); got != (n == 4 || n == 16) {
			t.Errorf("Address of %d bytes = %v", n, got)
		}
	}
}

func TestCut(t *testing.T) {
	for _, c := range []struct {
		a    string
		bits int
		want string
	}{
		{v4, 24, "\xc0\x00\x02\x00"},
		{v4, 32, v4},
		{v4, 31, "\xc0\x00\x02\x06"},
		{v4, 0, "\x00\x00\x00\x00"},
		{v4, 1, "\x80\x00\x00\x00"},
		{v4, 2, "\xc0\x00\x00\x00"},
		{v4, 22, "\xc0\x00\x00\x00"},
		{v4, 23, "\xc0\x00\x02\x00"},
		{"\xff\xff\xff\xff", 9, "\xff\x80\x00\x00"},
		{v6, 128, v6},
		{v6, 0, strings.Repeat("\x00", 16)},
		{v6, 33, "\x20\x01\x0d\xb8\x80" + strings.Repeat("\x00", 11)},
		{v6, 32, "\x20\x01\x0d\xb8" + strings.Repeat("\x00", 12)},
		{v6, 124, v6[:15] + "\x70"},
	} {
		if got, ok := prefix.Cut(c.a, c.bits); got != (api.Prefix{Addr: c.want, Bits: c.bits}) || !ok {
			t.Errorf("Cut(%q, %d) = %+v, %v", c.a, c.bits, got, ok)
		}
	}
}

func TestCutOfEachLength(t *testing.T) {
	for _, a := range []string{v4, v6, "\xff\xff\xff\xff", strings.Repeat("\xff", 16)} {
		for bits := range 8*len(a) + 1 {
			got, ok := prefix.Cut(a, bits)
			if !ok || got.Bits != bits || len(got.Addr) != len(a) {
				t.Fatalf("Cut(%q, %d) = %+v, %v", a, bits, got, ok)
			}
			for i := range 8 * len(a) {
				if bit(got.Addr, i) != (i < bits && bit(a, i)) {
					t.Errorf("Cut(%q, %d) = %+v", a, bits, got)
				}
			}
			if !prefix.May(got) || !prefix.Has(got, a) {
				t.Errorf("%+v may not be, or is none of %q", got, a)
			}
		}
	}
}

func TestCutOfNone(t *testing.T) {
	for _, c := range []struct {
		a    string
		bits int
	}{
		{v4, -1}, {v4, 33}, {v4, 128}, {v4, math.MaxInt}, {v4, math.MinInt},
		{v6, -1}, {v6, 129}, {v6, math.MaxInt}, {v6, math.MinInt},
		{"", 0}, {"abc", 8}, {"abcde", 8}, {some(15), 0}, {some(17), 0}, {some(8), 64},
	} {
		if got, ok := prefix.Cut(c.a, c.bits); got != (api.Prefix{}) || ok {
			t.Errorf("Cut(%q, %d) = %+v, %v", c.a, c.bits, got, ok)
		}
	}
}

// noPrefixes are such as may not be.
func noPrefixes() []api.Prefix {
	return []api.Prefix{
		{}, {Bits: 8}, {Addr: "abc", Bits: 24}, {Addr: "abcde", Bits: 40}, {Addr: some(15)},
		{Addr: v4, Bits: 24}, {Addr: v4, Bits: 31}, {Addr: v4, Bits: 0}, {Addr: v4, Bits: -1}, {Addr: v4, Bits: 33}, {Addr: "\x00\x00\x00\x00", Bits: -1}, {Addr: "\x00\x00\x00\x00", Bits: 33},
		{Addr: v6, Bits: 124}, {Addr: v6, Bits: 129}, {Addr: v6, Bits: math.MaxInt}, {Addr: "\x00\x00\x00\x01", Bits: 31}, {Addr: "\x80\x00\x00\x00", Bits: 0},
		{Addr: strings.Repeat("\x00", 15) + "\x01", Bits: 127},
	}
}

func TestMay(t *testing.T) {
	for _, p := range []api.Prefix{
		{Addr: v4, Bits: 32}, {Addr: "\xc0\x00\x02\x00", Bits: 24}, {Addr: "\xc0\x00\x02\x00", Bits: 23}, {Addr: "\xc0\x00\x02\x00", Bits: 32}, {Addr: "\x00\x00\x00\x00"},
		{Addr: v6, Bits: 128}, {Addr: v6, Bits: 125}, {Addr: strings.Repeat("\x00", 16)}, {Addr: "\x00\x00\x00\x00", Bits: 32},
	} {
		if !prefix.May(p) {
			t.Errorf("May(%+v) is false", p)
		}
	}
	for _, p := range noPrefixes() {
		if prefix.May(p) {
			t.Errorf("May(%+v) is true", p)
		}
		for _, a := range []string{p.Addr, v4, v6, ""} {
			if prefix.Has(p, a) {
				t.Errorf("Has(%+v, %q) is true", p, a)
			}
		}
		if got := prefix.Key(p); got != "" {
			t.Errorf("Key(%+v) = %q", p, got)
		}
	}
}

func TestHas(t *testing.T) {
	net := api.Prefix{Addr: "\xc0\x00\x02\x00", Bits: 24}
	odd := api.Prefix{Addr: "\xc0\x00\x02\x08", Bits: 29}
	all4, all6 := api.Prefix{Addr: "\x00\x00\x00\x00"}, api.Prefix{Addr: strings.Repeat("\x00", 16)}
	net6 := api.Prefix{Addr: "\x20\x01\x0d\xb8" + strings.Repeat("\x00", 12), Bits: 32}
	one := api.Prefix{Addr: v4, Bits: 32}
	for _, c := range []struct {
		p    api.Prefix
		a    string
		want bool
	}{
		{net, v4, true},
		{net, "\xc0\x00\x02\x00", true},
		{net, "\xc0\x00\x02\xff", true},
		{net, "\xc0\x00\x03\x00", false},
		{net, "\xc0\x00\x01\xff", false},
		{net, "\xc0\x00\x02", false},
		{net, "\xc0\x00\x02\x00\x00", false},
		{net, "", false},
		{odd, "\xc0\x00\x02\x0f", true},
		{odd, "\xc0\x00\x02\x10", false},
		{odd, "\xc0\x00\x02\x07", false},
		{one, v4, true},
		{one, "\xc0\x00\x02\x06", false},
		{all4, v4, true},
		{all4, "\xff\xff\xff\xff", true},
		{all4, v6, false},
		{all6, v6, true},
		{all6, v4, false},
		{net6, v6, true},
		{net6, "\x20\x01\x0d\xb9" + v6[4:], false},
		{net6, v6[:4], false},
		{api.Prefix{Addr: v6[:4], Bits: 32}, v6, false},
	} {
		if got := prefix.Has(c.p, c.a); got != c.want {
			t.Errorf("Has(%+v, %q) = %v", c.p, c.a, got)
		}
	}
}

func TestCommon(t *testing.T) {
	for _, c := range []struct {
		a, b string
		want int
	}{
		{v4, v4, 32},
		{v6, v6, 128},
		{v4, "\xc0\x00\x02\x06", 31},
		{v4, "\xc0\x00\x02\x05", 30},
		{v4, "\xc0\x00\x03\x07", 23},
		{v4, "\x40\x00\x02\x07", 0},
		{v4, "\x80\x00\x02\x07", 1},
		{v4, "\xc0\x80\x02\x07", 8},
		{"\x00\x00\x00\x00", "\x00\x00\x00\x00", 32},
		{v6, v6[:15] + "\x79", 127},
		{v6, v6[:4] + "\x7f" + v6[5:], 32},
		{v6, "\x21" + v6[1:], 7},
		{v4, v6, 0},
		{v6, v4, 0},
		{v6[:4], v6, 0},
		{"", "", 0},
		{"abc", "abc", 0},
		{"abcde", "abcde", 0},
		{some(15), some(15), 0},
		{some(17), some(17), 0},
		{v4, "", 0},
		{"", v4, 0},
	} {
		if got := prefix.Common(c.a, c.b); got != c.want {
			t.Errorf("Common(%q, %q) = %d, want %d", c.a, c.b, got, c.want)
		}
	}
}

func TestCommonOfEachBit(t *testing.T) {
	for _, a := range []string{v4, v6} {
		for i := range 8 * len(a) {
			b := []byte(a)
			b[i/8] ^= 128 >> (i % 8)
			b[len(b)-1] ^= 1
			want := i
			if i == 8*len(a)-1 { // turned twice
				want++
			}
			if got := prefix.Common(a, string(b)); got != want {
				t.Errorf("Common(%q, %q) = %d, want %d", a, b, got, want)
			}
		}
	}
}

// P12.2

func TestKeyAndBack(t *testing.T) {
	for _, c := range []struct {
		p   api.Prefix
		key string
	}{
		{api.Prefix{Addr: "\xa0\x00\x00\x00", Bits: 3}, "101"},
		{api.Prefix{Addr: "\xa0\x00\x00\x00", Bits: 5}, "10100"},
		{api.Prefix{Addr: "\xff\x01\x00\x00", Bits: 17}, "11111111000000010"},
		{api.Prefix{Addr: "\x00\x00\x00\x00"}, ""},
		{api.Prefix{Addr: v4, Bits: 32}, "11000000000000000000001000000111"},
		{api.Prefix{Addr: strings.Repeat("\x00", 16)}, ""},
		{api.Prefix{Addr: strings.Repeat("\x00", 15) + "\x01", Bits: 128}, strings.Repeat("0", 127) + "1"},
		{api.Prefix{Addr: "\x20" + strings.Repeat("\x00", 15), Bits: 3}, "001"},
	} {
		if got := prefix.Key(c.p); got != c.key {
			t.Errorf("Key(%+v) = %q", c.p, got)
		}
		if got, ok := prefix.Back(c.key, len(c.p.Addr)); got != c.p || !ok {
			t.Errorf("Back(%q, %d) = %+v, %v", c.key, len(c.p.Addr), got, ok)
		}
	}
}

func TestKeysComeBack(t *testing.T) {
	for _, a := range []string{v4, v6} {
		for bits := range 8*len(a) + 1 {
			p, _ := prefix.Cut(a, bits)
			key := prefix.Key(p)
			if got, ok := prefix.Back(key, len(a)); got != p || !ok || len(key) != bits {
				t.Errorf("%+v comes back as %+v, %v, by %q", p, got, ok, key)
			}
		}
	}
}

func TestBackOfNoKey(t *testing.T) {
	for _, c := range []struct {
		key  string
		size int
	}{
		{strings.Repeat("0", 33), 4}, {strings.Repeat("1", 33), 4}, {strings.Repeat("0", 129), 16}, {strings.Repeat("1", 1000), 16},
		{"012", 4}, {"/", 4}, {" 1", 4}, {"1 ", 16}, {"\x00\x01", 4}, {"a", 16}, {strings.Repeat("0", 31) + "2", 4},
		{"", 0}, {"", 3}, {"", 5}, {"", 15}, {"", 17}, {"", -1}, {"", 32}, {"1", 0}, {"1", -4}, {"1", 8}, {"1", math.MaxInt}, {"1", math.MinInt},
	} {
		if got, ok := prefix.Back(c.key, c.size); got != (api.Prefix{}) || ok {
			t.Errorf("Back(%q, %d) = %+v, %v", c.key, c.size, got, ok)
		}
	}
}
