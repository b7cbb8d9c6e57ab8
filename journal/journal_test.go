package journal_test

import (
	"errors"
	"slices"
	"strings"
	"testing"

	"bolter/api"
	"bolter/device"
	"bolter/frame"
	"bolter/journal"
)

// segments are a device's, each behind a bar.
func segments(d *device.Device) string {
	got := ""
	for _, s := range d.Segments() {
		got += "|" + string(s)
	}
	return got
}

// read holds what a device's journal has against what it should.
func read(t *testing.T, why string, d *device.Device, whole bool, want ...string) {
	t.Helper()
	fs, ok := journal.Read(d)
	var got []string
	for _, f := range fs {
		got = append(got, string(f))
	}
	if !slices.Equal(got, want) || ok != whole {
		t.Errorf("%s: %q, %v, want %q, %v", why, got, ok, want, whole)
	}
}

func write(t *testing.T, j *journal.Journal, bs ...string) {
	t.Helper()
	for _, b := range bs {
		if err := j.Write([]byte(b)); err != nil {
			t.Errorf("Write of %d bytes: %v", len(b), err)
		}
	}
}

// of is the frame of bytes.
func of(b string) string {
	f, _ := frame.Make([]byte(b))
	return string(f)
}

// P24.1

func TestOf(t *testing.T) {
	d := &device.Device{}
	j := journal.Of(d)
	if j.Device != d || segments(d) != "" || d.Writes() != 0 {
		t.Error("the device is another one, or changed")
	}
	d.Append([]byte("torn"))
	if journal.Of(d); segments(d) != "|torn" || d.Safe() != 0 || d.Writes() != 1 {
		t.Error("the device is changed")
	}
	// the device's methods are the journal's
	j.Sync()
	if j.Safe() != 4 || j.Last() != 4 || j.Writes() != 1 || len(j.Segments()) != 1 {
		t.Error("the journal is not its device")
	}
}

func TestWrite(t *testing.T) {
	d := &device.Device{}
	j := journal.Of(d)
	write(t, j, "a", "", "bc")
	if got := segments(d); got != "|"+of("a")+of("")+of("bc") {
		t.Errorf("%q", got)
	}
	if d.Safe() != 0 || d.Writes() != 3 {
		t.Errorf("%d are safe, %d writes", d.Safe(), d.Writes())
	}
	read(t, "written", d, true, "a", "", "bc")
}

func TestWriteOfTooMany(t *testing.T) {
	d := &device.Device{}
	j := journal.Of(d)
	big := strings.Repeat("x", 601)
	if err := j.Write([]byte(big)); !errors.Is(err, api.ErrFull) {
		t.Error(err)
	}
	if segments(d) != "" || d.Writes() != 0 {
		t.Error("it has an effect")
	}
	write(t, j, big[:600], big[:600], big[:600])
	if err := j.Write([]byte(big)); !errors.Is(err, api.ErrFull) {
		t.Error(err)
	}
	if len(d.Segments()) != 1 || d.Safe() != 0 || d.Writes() != 3 || d.Last() != 3*606 {
		t.Error("it has an effect")
	}
}

func TestWriteBeginsSegments(t *testing.T) {
	x := strings.Repeat("x", 600)
	for last, begins := range map[int]bool{0: false, 200: false, 223: false, 224: false, 225: true, 600: true} {
		d := &device.Device{}
		j := journal.Of(d)
		write(t, j, x, x, x) // 1818 of 2048 bytes
		write(t, j, x[:last])
		want := "|" + of(x) + of(x) + of(x)
		if begins {
			want += "|"
		}
		want += of(x[:last])
		if segments(d) != want {
			t.Errorf("%d bytes more: a segment begins: %v", last, !begins)
		}
		safe := 0
		if begins {
			safe = 1818
		}
		if d.Safe() != safe || d.Writes() != 4 {
			t.Errorf("%d bytes more: %d are safe, %d writes", last, d.Safe(), d.Writes())
		}
		read(t, "all", d, true, x, x, x, x[:last])
	}
}

func TestWriteIntoAnEmptySegment(t *testing.T) {
	d := &device.Device{}
	d.Begin()
	write(t, journal.Of(d), "a")
	if segments(d) != "|"+of("a") {
		t.Errorf("%q", segments(d))
	}
	d.Begin()
	write(t, journal.Of(d), "b")
	if segments(d) != "|"+of("a")+"|"+of("b") {
		t.Errorf("%q", segments(d))
	}
}

func TestWriteBehindASegmentThatIsTooGreat(t *testing.T) {
	d := &device.Device{}
	d.Append(make([]byte, 5000))
	write(t, journal.Of(d), "a")
	if len(d.Segments()) != 2 || d.Last() != 7 || d.Safe() != 5000 {
		t.Error("no segment begins")
	}
}

func TestManyWrites(t *testing.T) {
	d := &device.Device{}
	j := journal.Of(d)
	var want []string
	for i := range 500 {
		b := strings.Repeat(string(rune('a'+i%26)), i*37%601)
		want = append(want, b)
		write(t, j, b)
		if d.Last() > api.MaxSegment {
			t.Fatalf("a segment has %d bytes", d.Last())
		}
	}
	read(t, "many", d, true, want...)
	all := d.Segments()
	for k := range len(all) - 1 {
		if next, _, ok := frame.Cut(all[k+1]); !ok || len(all[k])+len(next)+6 <= api.MaxSegment {
			t.Errorf("segment %d ends though there is room", k)
		}
	}
}

// P24.2

func TestReadOfNothing(t *testing.T) {
	d := &device.Device{}
	read(t, "no segment", d, true)
	d.Begin()
	d.Begin()
	read(t, "empty segments", d, true)
}

func TestReadOfTornSegments(t *testing.T) {
	for why, c := range map[string]struct {
		segments []string
		whole    bool
		want     []string
	}{
		"all whole":            {[]string{of("a") + of("b"), of("c")}, true, []string{"a", "b", "c"}},
		"an empty one between": {[]string{of("a"), "", of("c")}, true, []string{"a", "c"}},
		"the last torn":        {[]string{of("a"), of("b") + of("c")[:6]}, false, []string{"a", "b"}},
		"the first torn":       {[]string{of("a") + "x", of("b")}, false, []string{"a", "b"}},
		"one torn within":      {[]string{of("a"), of("b")[:3] + of("c"), of("d")}, false, []string{"a", "d"}},
		"all torn":             {[]string{"x", "y"}, false, nil},
		"a torn one alone":     {[]string{of("a")[1:]}, false, nil},
		"a byte turned":        {[]string{of("a") + of("b") + strings.Replace(of("c"), "c", "C", 1) + of("d")}, false, []string{"a", "b"}},
	} {
		d := &device.Device{}
		for _, s := range c.segments {
			d.Begin()
			d.Append([]byte(s))
		}
		before, safe := segments(d), d.Safe()
		read(t, why, d, c.whole, c.want...)
		if segments(d) != before || d.Safe() != safe {
			t.Errorf("%s: the device has changed", why)
		}
	}
}

func TestRecover(t *testing.T) {
	for why, c := range map[string]struct {
		segments []string
		gone     int
		left     string
	}{
		"nothing":             {nil, 0, ""},
		"an empty segment":    {[]string{""}, 0, "|"},
		"a whole one":         {[]string{of("a") + of("b")}, 0, "|" + of("a") + of("b")},
		"a torn one":          {[]string{of("a") + of("b")[:5]}, 5, "|" + of("a")},
		"nothing but torn":    {[]string{"torn"}, 4, "|"},
		"the last of several": {[]string{of("a"), of("b") + "xyz"}, 3, "|" + of("a") + "|" + of("b")},
		"another one torn":    {[]string{of("a") + "xyz", of("b")}, 0, "|" + of("a") + "xyz|" + of("b")},
		"a frame behind it":   {[]string{of("a") + "x" + of("b")}, 8, "|" + of("a")},
	} {
		d := &device.Device{}
		for _, s := range c.segments {
			d.Begin()
			d.Append([]byte(s))
		}
		writes := d.Writes()
		if got := journal.Of(d).Recover(); got != c.gone {
			t.Errorf("%s: %d bytes are gone, not %d", why, got, c.gone)
		}
		if segments(d) != c.left || d.Safe() != len(strings.ReplaceAll(c.left, "|", "")) || d.Writes() != writes {
			t.Errorf("%s: %q is left, %d of it safe", why, segments(d), d.Safe())
		}
		if got := journal.Of(d).Recover(); got != 0 {
			t.Errorf("%s: %d bytes are gone again", why, got)
		}
	}
}

func TestTheExample(t *testing.T) {
	d := &device.Device{}
	j := journal.Of(d)
	write(t, j, "a")
	j.Sync()
	write(t, j, "b")
	j.Crash(3)
	read(t, "crashed", d, false, "a")
	if got := j.Recover(); got != 3 {
		t.Errorf("%d bytes are gone", got)
	}
	read(t, "recovered", d, true, "a")
	write(t, j, "c")
	read(t, "written", d, true, "a", "c")
}

func TestWhatIsSyncedIsThereBehindACrash(t *testing.T) {
	for keep := range 40 {
		d := &device.Device{}
		j := journal.Of(d)
		write(t, j, "one", "two")
		j.Sync()
		write(t, j, "three", "four", "five")
		j.Crash(keep)
		j.Recover()
		got, whole := journal.Read(d)
		n := 2
		for left := keep; n < 5 && left >= len(of([]string{"three", "four", "five"}[n-2])); n++ {
			left -= len(of([]string{"three", "four", "five"}[n-2]))
		}
		if len(got) != n || !whole || string(got[0]) != "one" || string(got[1]) != "two" {
			t.Errorf("with %d bytes kept there are %q, %v", keep, got, whole)
		}
	}
}

func TestNothingIsKept(t *testing.T) {
	d := &device.Device{}
	b := []byte("abc")
	journal.Of(d).Write(b)
	b[0] = '!'
	got, _ := journal.Read(d)
	got[0][1] = '!'
	read(t, "kept", d, true, "abc")
}
