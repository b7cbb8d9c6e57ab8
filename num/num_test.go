package num_test

import (
	"math"
	"slices"
	"testing"

	"bolter/num"
)

// P1.1

func TestPut16(t *testing.T) {
	for _, c := range []struct {
		b    []byte
		ns   []uint16
		want []byte
	}{
		{nil, nil, nil},
		{[]byte{}, []uint16{258}, []byte{1, 2}},
		{nil, []uint16{0, 1, 0x8000, 0xffff, 0xff00, 0x00ff}, []byte{0, 0, 0, 1, 128, 0, 255, 255, 255, 0, 0, 255}},
		{[]byte{9, 8}, []uint16{0x1234}, []byte{9, 8, 0x12, 0x34}},
		{[]byte{9}, nil, []byte{9}},
	} {
		if got := num.Put16(c.b, c.ns...); !slices.Equal(got, c.want) {
			t.Errorf("Put16(%v, %v) = %v, want %v", c.b, c.ns, got, c.want)
		}
	}
}

func TestPut32(t *testing.T) {
	for _, c := range []struct {
		b    []byte
		ns   []uint32
		want []byte
	}{
		{nil, nil, nil},
		{nil, []uint32{0x01020304}, []byte{1, 2, 3, 4}},
		{nil, []uint32{0, 1, math.MaxUint32, 1 << 31}, []byte{0, 0, 0, 0, 0, 0, 0, 1, 255, 255, 255, 255, 128, 0, 0, 0}},
		{[]byte{9, 8, 7}, []uint32{0xa0b0c0d0}, []byte{9, 8, 7, 0xa0, 0xb0, 0xc0, 0xd0}},
		{[]byte{9}, nil, []byte{9}},
	} {
		if got := num.Put32(c.b, c.ns...); !slices.Equal(got, c.want) {
			t.Errorf("Put32(%v, %v) = %v, want %v", c.b, c.ns, got, c.want)
		}
	}
}

func TestPutLeavesItsBytesAlone(t *testing.T) {
	room := []byte{1, 2, 3, 4, 5, 6, 7, 8}
	short := num.Put16(room[:2], 0x0a0b)
	long := num.Put32(room[:2], 0x0a0b0c0d)
	same16, same32 := num.Put16(room), num.Put32(room)
	for _, b := range [][]byte{short, long, same16, same32} {
		b[0] = 99
	}
	if !slices.Equal(room, []byte{1, 2, 3, 4, 5, 6, 7, 8}) {
		t.Errorf("the bytes handed in have become %v", room)
	}
}

func TestGet16(t *testing.T) {
	for _, c := range []struct {
		b    string
		at   int
		want uint16
		ok   bool
	}{
		{"\x01\x02", 0, 0x0102, true},
		{"\x00\x01\x02\xff", 2, 0x02ff, true},
		{"\xff\xff\x00", 0, 0xffff, true},
		{"\xff\xff\x00", 1, 0xff00, true},
		{"\x00\x00", 0, 0, true},
		{"", 0, 0, false},
		{"a", 0, 0, false},
		{"ab", 1, 0, false},
		{"ab", 2, 0, false},
		{"ab", 3, 0, false},
		{"abcd", -1, 0, false},
		{"abcd", -2, 0, false},
		{"abcd", math.MaxInt, 0, false},
		{"abcd", math.MaxInt - 1, 0, false},
		{"abcd", math.MinInt, 0, false},
	} {
		if got, ok := num.Get16(c.b, c.at); got != c.want || ok != c.ok {
			t.Errorf("Get16(%q, %d) = %d, %v, want %d, %v", c.b, c.at, got, ok, c.want, c.ok)
		}
	}
}

func TestGet32(t *testing.T) {
	for _, c := range []struct {
		b    string
		at   int
		want uint32
		ok   bool
	}{
		{"\x01\x02\x03\x04", 0, 0x01020304, true},
		{"\x00\x81\x92\xa3\xb4", 1, 0x8192a3b4, true},
		{"\x00\x00\xff\xff\xff\xff", 2, math.MaxUint32, true},
		{"\x00\x00\x00\x00", 0, 0, true},
		{"", 0, 0, false},
		{"abc", 0, 0, false},
		{"abcd", 1, 0, false},
		{"abcd", 4, 0, false},
		{"abcd", 5, 0, false},
		{"abcdefgh", -1, 0, false},
		{"abcdefgh", -4, 0, false},
		{"abcd", math.MaxInt, 0, false},
		{"abcd", math.MaxInt - 3, 0, false},
		{"abcd", math.MinInt, 0, false},
	} {
		if got, ok := num.Get32(c.b, c.at); got != c.want || ok != c.ok {
			t.Errorf("Get32(%q, %d) = %d, %v, want %d, %v", c.b, c.at, got, ok, c.want, c.ok)
		}
	}
}

func TestNumbersComeBack(t *testing.T) {
	for shift := range 32 {
		n := uint32(0x9e3779b9) >> shift
		if got, ok := num.Get32(string(num.Put32([]byte{7}, n)), 1); got != n || !ok {
			t.Errorf("Get32 after Put32(%d) = %d, %v", n, got, ok)
		}
		if got, ok := num.Get16(string(num.Put16([]byte{7, 7}, uint16(n))), 2); got != uint16(n) || !ok {
			t.Errorf("Get16 after Put16(%d) = %d, %v", uint16(n), got, ok)
		}
	}
}

// P1.2

func TestBits(t *testing.T) {
	const T, F = true, false
	for _, c := range []struct {
		fs   []bool
		want uint16
	}{
		{nil, 0},
		{[]bool{F}, 0},
		{[]bool{T}, 1},
		{[]bool{T, F}, 2},
		{[]bool{F, T}, 1},
		{[]bool{T, F, T, T}, 11},
		{[]bool{T, F, F, F, F, F, F, F, F, F, F, F, F, F, F, F}, 0x8000},
		{[]bool{T, T, T, T, T, T, T, T, T, T, T, T, T, T, T, T}, 0xffff},
		{[]bool{T, F, F, F, F, F, F, F, F, F, F, F, F, F, F, F, F}, 0},
		{[]bool{T, T, F, F, F, F, F, F, F, F, F, F, F, F, F, F, T}, 0x8001},
		{append(make([]bool, 100), T, F, T), 5},
		{append([]bool{T, T, T}, make([]bool, 100)...), 0},
	} {
		if got := num.Bits(c.fs...); got != c.want {
			t.Errorf("Bits(%v) = %d, want %d", c.fs, got, c.want)
		}
	}
}

func TestFlags(t *testing.T) {
	const T, F = true, false
	for _, c := range []struct {
		n    uint16
		many int
		want []bool
	}{
		{2, 3, []bool{F, T, F}},
		{6, 3, []bool{T, T, F}},
		{6, 2, []bool{T, F}},
		{6, 1, []bool{F}},
		{7, 1, []bool{T}},
		{7, 0, nil},
		{7, -1, nil},
		{7, math.MinInt, nil},
		{0x8001, 15, []bool{F, F, F, F, F, F, F, F, F, F, F, F, F, F, T}},
		{0x8001, 16, []bool{T, F, F, F, F, F, F, F, F, F, F, F, F, F, F, T}},
		{0x8001, 17, []bool{T, F, F, F, F, F, F, F, F, F, F, F, F, F, F, T}},
		{0x4002, math.MaxInt, []bool{F, T, F, F, F, F, F, F, F, F, F, F, F, F, T, F}},
	} {
		if got := num.Flags(c.n, c.many); !slices.Equal(got, c.want) {
			t.Errorf("Flags(%d, %d) = %v, want %v", c.n, c.many, got, c.want)
		}
	}
}

func TestFlagsComeBack(t *testing.T) {
	for n := range 1 << 16 {
		if got := num.Bits(num.Flags(uint16(n), 16)...); got != uint16(n) {
			t.Fatalf("Bits(Flags(%d, 16)) = %d", n, got)
		}
	}
}
