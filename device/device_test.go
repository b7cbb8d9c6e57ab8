package device_test

import (
	"math"
	"strings"
	"testing"

	"bolter/device"
)

// state is what a device should have: its segments, each behind a bar.
func state(t *testing.T, why string, d *device.Device, segments string, safe, last, writes int) {
	t.Helper()
	got := ""
	for _, s := range d.Segments() {
		got += "|" + string(s)
	}
	if got != segments {
		t.Errorf("%s: the segments are %q, not %q", why, got, segments)
	}
	if d.Safe() != safe || d.Last() != last || d.Writes() != writes {
		t.Errorf("%s: %d are safe, the last has %d, %d writes; want %d, %d, %d", why, d.Safe(), d.Last(), d.Writes(), safe, last, writes)
	}
}

// P23.1

func TestTheZeroDevice(t *testing.T) {
	d := &device.Device{}
	state(t, "zero", d, "", 0, 0, 0)
	d.Sync()
	state(t, "Sync", d, "", 0, 0, 0)
}

func TestAppendAndSync(t *testing.T) {
	d := &device.Device{}
	d.Append([]byte("ab"))
	state(t, "the first", d, "|ab", 0, 2, 1)
	d.Append([]byte("c"))
	state(t, "the second", d, "|abc", 0, 3, 2)
	d.Sync()
	state(t, "Sync", d, "|abc", 3, 3, 2)
	d.Append(nil)
	state(t, "nothing", d, "|abc", 3, 3, 3)
	d.Append([]byte("defg"))
	state(t, "the third", d, "|abcdefg", 3, 7, 4)
	d.Sync()
	d.Sync()
	state(t, "Sync twice", d, "|abcdefg", 7, 7, 4)
}

func TestAppendOfNothingBeginsASegment(t *testing.T) {
	d := &device.Device{}
	d.Append(nil)
	state(t, "nothing", d, "|", 0, 0, 1)
	d.Append([]byte{})
	state(t, "nothing again", d, "|", 0, 0, 2)
}

func TestBegin(t *testing.T) {
	d := &device.Device{}
	d.Begin()
	state(t, "Begin", d, "|", 0, 0, 0)
	d.Append([]byte("ab"))
	state(t, "Append", d, "|ab", 0, 2, 1)
	d.Begin()
	state(t, "Begin makes all safe", d, "|ab|", 2, 0, 1)
	d.Append([]byte("cde"))
	state(t, "Append", d, "|ab|cde", 2, 3, 2)
	d.Begin()
	d.Begin()
	state(t, "Begin twice", d, "|ab|cde||", 5, 0, 2)
	d.Append([]byte("f"))
	d.Sync()
	d.Append([]byte("g"))
	state(t, "all", d, "|ab|cde||fg", 6, 2, 4)
}

func TestBeginBehindSync(t *testing.T) {
	d := &device.Device{}
	d.Append([]byte("ab"))
	d.Sync()
	d.Begin()
	state(t, "Begin", d, "|ab|", 2, 0, 1)
	d.Append([]byte("cde"))
	state(t, "Append", d, "|ab|cde", 2, 3, 2)
	d.Crash(1)
	state(t, "Crash", d, "|ab|c", 3, 1, 2)
}

func TestNothingIsShared(t *testing.T) {
	d := &device.Device{}
	b := append(make([]byte, 0, 10), "ab"...)
	d.Append(b)
	b[0] = '!'
	_ = append(b, '!')
	d.Append([]byte("cd"))
	d.Begin()
	d.Append([]byte("ef"))
	state(t, "the bytes handed in", d, "|abcd|ef", 4, 2, 3)
	for _, s := range d.Segments() {
		for i := range s {
			s[i] = '!'
		}
		_ = append(s, '!')
	}
	d.Append([]byte("g"))
	state(t, "the bytes handed out", d, "|abcd|efg", 4, 3, 4)
	seen := d.Segments()
	d.Cut(1)
	d.Append([]byte("xyz"))
	if string(seen[1]) != "efg" {
		t.Errorf("what was handed out has become %q", seen[1])
	}
}

func TestDevicesShareNothing(t *testing.T) {
	a, b := &device.Device{}, &device.Device{}
	a.Append([]byte("a"))
	state(t, "another one", b, "", 0, 0, 0)
}

// P23.2

// built is a device of the segments "ab", safe, and "cdefgh", of which three bytes are.
func built() *device.Device {
	d := &device.Device{}
	d.Append([]byte("ab"))
	d.Begin()
	d.Append([]byte("cde"))
	d.Sync()
	d.Append([]byte("fgh"))
	return d
}

func TestCrash(t *testing.T) {
	state(t, "built", built(), "|ab|cdefgh", 5, 6, 3)
	for keep, last := range map[int]string{
		math.MinInt: "cde", -3: "cde", -1: "cde", 0: "cde", 1: "cdef", 2: "cdefg", 3: "cdefgh", 4: "cdefgh", math.MaxInt: "cdefgh", math.MaxInt - 2: "cdefgh",
	} {
		d := built()
		d.Crash(keep)
		state(t, "Crash", d, "|ab|"+last, 2+len(last), len(last), 3)
		d.Append([]byte("z"))
		d.Crash(0)
		state(t, "Crash again", d, "|ab|"+last, 2+len(last), len(last), 4)
	}
}

func TestTheExample(t *testing.T) {
	d := &device.Device{}
	d.Append([]byte("ab"))
	d.Sync()
	d.Append([]byte("cd"))
	d.Crash(1)
	state(t, "the example", d, "|abc", 3, 3, 2)
}

func TestCut(t *testing.T) {
	for n, want := range map[int]struct {
		last string
		safe int
	}{
		math.MinInt: {"", 2}, -1: {"", 2}, 0: {"", 2}, 1: {"c", 3}, 2: {"cd", 4}, 3: {"cde", 5}, 4: {"cdef", 5}, 5: {"cdefg", 5}, 6: {"cdefgh", 5}, 7: {"cdefgh", 5}, math.MaxInt: {"cdefgh", 5},
	} {
		d := built()
		d.Cut(n)
		state(t, "Cut", d, "|ab|"+want.last, want.safe, len(want.last), 3)
		d.Append([]byte("z"))
		state(t, "Append behind Cut", d, "|ab|"+want.last+"z", want.safe, len(want.last)+1, 4)
		d.Crash(0)
		state(t, "Crash behind Cut", d, "|ab|"+want.last[:want.safe-2], want.safe, want.safe-2, 4)
	}
}

func TestLossOfNothing(t *testing.T) {
	for _, n := range []int{math.MinInt, -1, 0, 1, math.MaxInt} {
		d := &device.Device{}
		d.Crash(n)
		state(t, "Crash of no segment", d, "", 0, 0, 0)
		d.Cut(n)
		state(t, "Cut of no segment", d, "", 0, 0, 0)
		d.Append([]byte("ab"))
		d.Begin()
		d.Crash(n)
		state(t, "Crash of an empty segment", d, "|ab|", 2, 0, 1)
		d.Cut(n)
		state(t, "Cut of an empty segment", d, "|ab|", 2, 0, 1)
	}
}

func TestLossOfAll(t *testing.T) {
	d := &device.Device{}
	d.Append([]byte(strings.Repeat("x", 5000)))
	d.Crash(0)
	state(t, "Crash", d, "|", 0, 0, 1)
	d.Append([]byte("y"))
	d.Sync()
	d.Cut(0)
	state(t, "Cut", d, "|", 0, 0, 2)
}
