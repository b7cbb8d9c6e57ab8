package zone_test

import (
	"errors"
	"math"
	"slices"
	"strings"
	"testing"

	"bolter/api"
	"bolter/zone"
)

const origin = "\x03rpz"

var (
	soa = api.Record{Name: origin, Type: api.SOA, TTL: 5, Data: "\x00\x00" + strings.Repeat("n", 20)}
	a   = api.Record{Name: "\x01a" + origin, Type: api.A, TTL: 5, Data: "abcd"}
	b   = api.Record{Name: "\x01a" + origin, Type: api.TXT, TTL: 5, Data: "\x01t"}
	c   = api.Record{Name: "\x01b" + origin, Type: api.A, TTL: 5, Data: "abcd"}
)

// rising are records in order: each less than all behind it.
func rising() zone.Zone {
	return zone.Zone{
		{},
		{TTL: 1},
		{TTL: math.MaxUint32},
		{Data: "\x00"},
		{Data: "a", TTL: 9},
		{Data: "ab"},
		{Data: "b"},
		{Data: "\xff"},
		{Type: 1},
		{Type: 1, Data: "\x00"},
		{Type: 2},
		{Type: 256},
		{Type: 65535, TTL: 7},
		{Name: "\x01"},
		{Name: "\x01A"},
		{Name: "\x01a", TTL: 3},
		{Name: "\x01a", Data: "a"},
		{Name: "\x01a", Type: 1},
		{Name: "\x01a\x01b"},
		{Name: "\x01b"},
		{Name: "\x02a"},
		{Name: "\xff"},
	}
}

// P8.1

func TestCompare(t *testing.T) {
	rs := rising()
	for i, x := range rs {
		for k, y := range rs {
			want := 0
			if i < k {
				want = -1
			} else if i > k {
				want = 1
			}
			if got := zone.Compare(x, y); got != want {
				t.Errorf("Compare(%+v, %+v) = %d", x, y, got)
			}
		}
	}
	if zone.Compare(a, b) != -1 || zone.Compare(b, c) != -1 || zone.Compare(c, a) != 1 {
		t.Error("a. A, a. TXT and b. A are not in order")
	}
}

func TestInsertAndDelete(t *testing.T) {
	all := rising()
	for i, r := range all {
		without := slices.Concat(all[:i], all[i+1:])
		got, err := zone.Insert(without, r)
		if err != nil || !slices.Equal(got, all) {
			t.Errorf("Insert of %+v: %+v, %v", r, got, err)
		}
		got, err = zone.Delete(all, r)
		if err != nil || !slices.Equal(got, without) {
			t.Errorf("Delete of %+v: %+v, %v", r, got, err)
		}
		got, err = zone.Insert(all, r)
		if !errors.Is(err, api.ErrTwice) || len(got) != 0 {
			t.Errorf("Insert of %+v, which is there: %+v, %v", r, got, err)
		}
		got, err = zone.Delete(without, r)
		if !errors.Is(err, api.ErrMissing) || len(got) != 0 {
			t.Errorf("Delete of %+v, which is not there: %+v, %v", r, got, err)
		}
		if !zone.Has(all, r) || zone.Has(without, r) || zone.Has(nil, r) {
			t.Errorf("Has of %+v is wrong", r)
		}
	}
	if got, err := zone.Insert(nil, a); err != nil || !slices.Equal(got, zone.Zone{a}) {
		t.Errorf("%+v, %v", got, err)
	}
	if got, err := zone.Delete(zone.Zone{a}, a); err != nil || len(got) != 0 {
		t.Errorf("%+v, %v", got, err)
	}
	if got, err := zone.Delete(nil, a); !errors.Is(err, api.ErrMissing) || len(got) != 0 {
		t.Errorf("%+v, %v", got, err)
	}
}

func TestEachFieldTellsRecordsApart(t *testing.T) {
	z := zone.Zone{a}
	for _, change := range []func(r *api.Record){
		func(r *api.Record) { r.Name = "\x01z" + origin },
		func(r *api.Record) { r.Type = 99 },
		func(r *api.Record) { r.TTL++ },
		func(r *api.Record) { r.Data = "abce" },
	} {
		r := a
		change(&r)
		if zone.Has(z, r) {
			t.Errorf("Has of %+v", r)
		}
		if got, err := zone.Insert(z, r); err != nil || len(got) != 2 {
			t.Errorf("Insert of %+v: %+v, %v", r, got, err)
		}
		if got, err := zone.Delete(z, r); !errors.Is(err, api.ErrMissing) || len(got) != 0 {
			t.Errorf("Delete of %+v: %+v, %v", r, got, err)
		}
	}
}

func TestZonesAreLeftAlone(t *testing.T) {
	room := make(zone.Zone, 3, 10)
	copy(room, zone.Zone{a, b, c})
	first, _ := zone.Insert(room[:2], c)
	second, _ := zone.Delete(room, c)
	third, _ := zone.Delete(room, a)
	at := zone.At(room, a.Name)
	for _, z := range [][]api.Record{first, second, third, at} {
		for i := range z {
			z[i] = soa
		}
	}
	if !slices.Equal(room, zone.Zone{a, b, c}) {
		t.Errorf("the zone has become %+v", room)
	}
	if _, err := zone.Insert(room[:2], soa); err != nil || room[2] != c {
		t.Errorf("the record behind the zone has become %+v", room[2])
	}
}

func TestAt(t *testing.T) {
	z := zone.Zone{a, b, c, soa}
	for _, x := range []struct {
		z    zone.Zone
		n    api.Name
		want []api.Record
	}{
		{z, a.Name, []api.Record{a, b}},
		{z, c.Name, []api.Record{c}},
		{z, origin, []api.Record{soa}},
		{z, "\x01a", nil},
		{z, "", nil},
		{z, "\x01a" + origin + "\x01x", nil},
		{nil, a.Name, nil},
		{nil, "", nil},
	} {
		if got := zone.At(x.z, x.n); !slices.Equal(got, x.want) {
			t.Errorf("At(%q) = %+v", x.n, got)
		}
	}
}

func TestOtherListsEnd(t *testing.T) {
	z := zone.Zone{c, a, c, b, a}
	for _, r := range []api.Record{a, b, c, soa, {}} {
		zone.Has(z, r)
		zone.Insert(z, r)
		zone.Delete(z, r)
	}
}

// P8.2

func TestSize(t *testing.T) {
	for _, x := range []struct {
		z    zone.Zone
		want int
	}{
		{nil, 0},
		{zone.Zone{{}}, 10},
		{zone.Zone{{Name: "\x01a", TTL: 1000, Type: 99}}, 12},
		{zone.Zone{{Name: "\x01a", Data: "abcde"}}, 17},
		{zone.Zone{{Name: "\x01a", Data: "abcde"}, {Data: "x"}, {}}, 38},
	} {
		if got := zone.Size(x.z); got != x.want {
			t.Errorf("Size(%+v) = %d, want %d", x.z, got, x.want)
		}
	}
}

// many is a zone of so many records that takes so many bytes.
func many(records, bytes int) zone.Zone {
	z := make(zone.Zone, records)
	left := bytes - zone.Size(zone.Zone{soa}) - (records-1)*(10+len(a.Name))
	for i := range records - 1 {
		d := min(left, 500)
		z[i] = api.Record{Name: a.Name, Type: api.Type(1000 + i), Data: strings.Repeat("x", d)}
		left -= d
	}
	z[records-1] = soa
	return z
}

func TestFitsAndRightOfTheQuota(t *testing.T) {
	for _, x := range []struct {
		records, bytes int
		want           bool
	}{
		{256, 10000, true},
		{257, 10000, false},
		{256, 16384, true},
		{256, 16385, false},
		{257, 16384, false},
		{60, 16383, true},
		{60, 16384, true},
		{60, 16385, false},
		{300, 16000, false},
	} {
		z := many(x.records, x.bytes)
		if len(z) != x.records || zone.Size(z) != x.bytes {
			t.Fatalf("%d records of %d bytes", len(z), zone.Size(z))
		}
		if got := zone.Fits(z); got != x.want {
			t.Errorf("Fits of %d records of %d bytes = %v", x.records, x.bytes, got)
		}
		if got := zone.Right(z, origin); got != x.want {
			t.Errorf("Right of %d records of %d bytes = %v", x.records, x.bytes, got)
		}
	}
	if !zone.Fits(nil) {
		t.Error("no records do not fit")
	}
	if !zone.Fits(zone.Zone{{Name: "a"}, {Name: "a"}}) {
		t.Error("a list that is no zone does not fit")
	}
}

func TestSoa(t *testing.T) {
	other := soa
	other.TTL++
	for _, x := range []struct {
		z    zone.Zone
		want api.Record
		ok   bool
	}{
		{nil, api.Record{}, false},
		{zone.Zone{a, b, c}, api.Record{}, false},
		{zone.Zone{soa}, soa, true},
		{zone.Zone{a, b, c, soa}, soa, true},
		{zone.Zone{a, other, soa, c}, other, true},
		{zone.Zone{{Name: "\x01q", Type: api.SOA}}, api.Record{Name: "\x01q", Type: api.SOA}, true},
	} {
		if got, ok := zone.Soa(x.z); got != x.want || ok != x.ok {
			t.Errorf("Soa(%+v) = %+v, %v", x.z, got, ok)
		}
	}
}

func TestRight(t *testing.T) {
	second := soa
	second.TTL++
	below := soa
	below.Name = "\x01a" + origin
	sorted := func(rs ...api.Record) zone.Zone {
		slices.SortFunc(rs, zone.Compare)
		return rs
	}
	for _, x := range []struct {
		why    string
		z      zone.Zone
		origin api.Name
		want   bool
	}{
		{"a zone", sorted(soa, a, b, c), origin, true},
		{"an SOA alone", zone.Zone{soa}, origin, true},
		{"a record beside the SOA", sorted(soa, api.Record{Name: origin, Type: api.NS, Data: "\x01x"}), origin, true},
		{"a zone of the root", zone.Zone{{Type: api.SOA, Data: soa.Data}, a}, "", true},
		{"nothing", nil, origin, false},
		{"no SOA", sorted(a, b, c), origin, false},
		{"two SOAs", sorted(soa, second, a), origin, false},
		{"an SOA below", sorted(below), origin, false},
		{"an SOA below as well", sorted(soa, below), origin, false},
		{"another origin", sorted(soa, a), "\x01x", false},
		{"an origin below", sorted(soa, a), "\x01a" + origin, false},
		{"an SOA below the origin", sorted(soa, a), "", false},
		{"an origin that is no name", zone.Zone{{Name: "a", Type: api.SOA, Data: soa.Data}}, "a", false},
		{"a record that is not below", sorted(soa, api.Record{Name: "\x01a", Type: 99}), origin, false},
		{"a name that looks like below", sorted(soa, api.Record{Name: "\x05a" + origin, Type: 99}), origin, false},
		{"a record that may not be", sorted(soa, api.Record{Name: "\x01a" + origin, Type: api.A, Data: "abc"}), origin, false},
		{"an OPT", sorted(soa, api.Record{Name: "\x01a" + origin, Type: api.OPT}), origin, false},
		{"an SOA whose data may not be", zone.Zone{{Name: origin, Type: api.SOA, Data: "x"}}, origin, false},
		{"a record twice", zone.Zone{a, a, soa}, origin, false},
		{"falling records", zone.Zone{b, a, soa}, origin, false},
		{"falling records at the end", zone.Zone{a, soa, c}, origin, false},
		{"the SOA twice", zone.Zone{a, soa, soa}, origin, false},
	} {
		if got := zone.Right(x.z, x.origin); got != x.want {
			t.Errorf("%s: Right is %v", x.why, got)
		}
	}
}
