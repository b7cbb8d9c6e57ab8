package serial_test

import (
	"testing"

	"bolter/serial"
)

const (
	half = 1 << 31
	most = 1<<32 - 1
)

// P6.1

func TestLaterAndApart(t *testing.T) {
	for _, c := range []struct {
		a, b         uint32
		later, apart bool
	}{
		{0, 0, false, false},
		{7, 7, false, false},
		{most, most, false, false},
		{1, 0, true, false},
		{0, 1, false, false},
		{1, most, true, false},
		{0, most, true, false},
		{most, 0, false, false},
		{half - 1, 0, true, false},
		{half, 0, false, true},
		{half + 1, 0, false, false},
		{0, half, false, true},
		{0, half + 1, true, false},
		{0, half - 1, false, false},
		{half + 5, 5, false, true},
		{half + 4, 5, true, false},
		{5, half + 5, false, true},
		{5, half + 6, true, false},
		{100, most - 99, true, false},
	} {
		if got := serial.Later(c.a, c.b); got != c.later {
			t.Errorf("Later(%d, %d) = %v", c.a, c.b, got)
		}
		if got := serial.Apart(c.a, c.b); got != c.apart {
			t.Errorf("Apart(%d, %d) = %v", c.a, c.b, got)
		}
	}
}

func TestAdd(t *testing.T) {
	for _, c := range []struct {
		a, n, want uint32
		ok         bool
	}{
		{0, 0, 0, true},
		{5, 7, 12, true},
		{most, 1, 0, true},
		{most, 3, 2, true},
		{7, half - 1, half + 6, true},
		{half + 1, half - 1, 0, true},
		{0, half, 0, false},
		{7, half, 0, false},
		{7, half + 1, 0, false},
		{1, most, 0, false},
	} {
		if got, ok := serial.Add(c.a, c.n); got != c.want || ok != c.ok {
			t.Errorf("Add(%d, %d) = %d, %v", c.a, c.n, got, ok)
		}
	}
}

func TestLast(t *testing.T) {
	for _, c := range []struct {
		ns   []uint32
		want uint32
		ok   bool
	}{
		{nil, 0, false},
		{[]uint32{}, 0, false},
		{[]uint32{0}, 0, true},
		{[]uint32{9}, 9, true},
		{[]uint32{1, 3, 2}, 3, true},
		{[]uint32{3, 2, 1}, 3, true},
		{[]uint32{most, 1, 0}, 1, true},
		{[]uint32{1, most, most - 5}, 1, true},
		// numbers apart do not take one another's place
		{[]uint32{0, half}, 0, true},
		{[]uint32{half, 0}, half, true},
		// the order counts: each one is later than the one ahead, all the way round
		{[]uint32{0, half - 1, most - 1, 5}, 5, true},
		{[]uint32{5, 0, half - 1, most - 1}, most - 1, true},
		{[]uint32{0, most - 1, half - 1, 5}, half - 1, true},
	} {
		if got, ok := serial.Last(c.ns...); got != c.want || ok != c.ok {
			t.Errorf("Last(%d) = %d, %v, want %d", c.ns, got, ok, c.want)
		}
	}
}
