package apply_test

import (
	"errors"
	"slices"
	"strings"
	"testing"

	"bolter/api"
	"bolter/apply"
	"bolter/soa"
	"bolter/stream"
	"bolter/zone"
)

const origin = "\x03rpz"

// at is the origin's SOA of a serial number.
func at(serial uint32) api.Record {
	d, _ := soa.Data(soa.Soa{Serial: serial})
	return api.Record{Name: origin, Type: api.SOA, TTL: 60, Data: d}
}

func rec(n string) api.Record {
	return api.Record{Name: api.Name([]byte{byte(len(n))}) + api.Name(n) + origin, Type: api.CNAME, TTL: 60}
}

func list(rs ...api.Record) []api.Record { return rs }

// many are so many records, each of so many bytes.
func many(records, bytes int) []api.Record {
	rs := make([]api.Record, records)
	for i := range rs {
		rs[i] = api.Record{Name: origin, Type: api.Type(1000 + i), Data: strings.Repeat("x", bytes-14)}
	}
	return rs
}

// bytes are records, with an SOA, that take so many bytes.
func bytes(size int) []api.Record {
	rs := append(many(100, 160), at(1))
	left := size - zone.Size(rs)
	return append(rs, many(101, left)[100])
}

func delta(from, to api.Record, gone, come []api.Record) stream.Delta {
	return stream.Delta{From: from, To: to, Gone: gone, New: come}
}

var w, x, y, z = rec("w"), rec("x"), rec("y"), rec("z")

var alien = api.Record{Name: "\x01q", Type: api.CNAME}

// P10.1

func TestReplace(t *testing.T) {
	for why, c := range map[string]struct {
		rs   []api.Record
		want zone.Zone
		err  error
	}{
		"a zone":                          {list(at(1), z, x, y), list(x, y, z, at(1)), nil},
		"an SOA alone":                    {list(at(1)), list(at(1)), nil},
		"in order":                        {list(x, y, at(1)), list(x, y, at(1)), nil},
		"as many bytes as fit":            {bytes(16384), bytes(16384), nil},
		"a byte more":                     {bytes(16385), nil, api.ErrQuota},
		"nothing":                         {nil, nil, api.ErrStream},
		"no SOA":                          {list(x, y), nil, api.ErrStream},
		"two SOAs":                        {list(at(1), at(2), x), nil, api.ErrStream},
		"an alien":                        {list(at(1), x, alien), nil, api.ErrStream},
		"a record that may not be":        {list(at(1), api.Record{Name: x.Name, Type: api.A}), nil, api.ErrStream},
		"a record twice":                  {list(at(1), x, y, x), nil, api.ErrTwice},
		"the SOA twice":                   {list(at(1), x, at(1)), nil, api.ErrTwice},
		"a record twice, and an alien":    {list(at(1), x, x, alien), nil, api.ErrTwice},
		"a record twice, and no SOA":      {list(x, x), nil, api.ErrTwice},
		"too many, one of them twice":     {append(many(300, 20), many(1, 20)...), nil, api.ErrTwice},
		"256 records":                     {append(many(255, 20), at(1)), append(many(255, 20), at(1)), nil},
		"257 records":                     {append(many(256, 20), at(1)), nil, api.ErrQuota},
		"257 records, and no SOA":         {many(257, 20), nil, api.ErrQuota},
		"too many bytes":                  {append(many(100, 170), at(1)), nil, api.ErrQuota},
		"too many bytes, and an alien":    {append(many(100, 170), at(1), alien), nil, api.ErrQuota},
		"257 records, one may not be":     {append(many(256, 20), at(1), api.Record{Name: x.Name, Type: api.A}), nil, api.ErrQuota},
		"the same, but for the TTL":       {list(at(1), x, api.Record{Name: x.Name, Type: x.Type, TTL: 61}), list(x, api.Record{Name: x.Name, Type: x.Type, TTL: 61}, at(1)), nil},
		"an SOA that is not the origin's": {list(at(1), api.Record{Name: x.Name, Type: api.SOA, Data: at(1).Data}), nil, api.ErrStream},
	} {
		slices.SortFunc(c.want, zone.Compare)
		before := slices.Clone(c.rs)
		got, err := apply.Replace(origin, c.rs)
		if !errors.Is(err, c.err) || !slices.Equal(got, c.want) {
			t.Errorf("%s: %+v, %v", why, got, err)
		}
		if !slices.Equal(c.rs, before) {
			t.Errorf("%s: the records have changed", why)
		}
	}
	if got, err := apply.Replace("\x01q", list(at(1), x)); !errors.Is(err, api.ErrStream) || len(got) != 0 {
		t.Errorf("another origin: %+v, %v", got, err)
	}
}

func TestBetween(t *testing.T) {
	other := x
	other.TTL++
	for _, c := range []struct {
		a, b      zone.Zone
		gone, new []api.Record
	}{
		{nil, nil, nil, nil},
		{zone.Zone{x, y}, nil, list(x, y), nil},
		{nil, zone.Zone{x, y}, nil, list(x, y)},
		{zone.Zone{x, y}, zone.Zone{x, y}, nil, nil},
		{zone.Zone{w, x, y, at(1)}, zone.Zone{x, z, at(2)}, list(w, y, at(1)), list(z, at(2))},
		{zone.Zone{x}, zone.Zone{other}, list(x), list(other)},
		{zone.Zone{w}, zone.Zone{z}, list(w), list(z)},
		{zone.Zone{z}, zone.Zone{w}, list(z), list(w)},
		{zone.Zone{w, x, y, z}, zone.Zone{w, z}, list(x, y), nil},
		{zone.Zone{w, z}, zone.Zone{w, x, y, z}, nil, list(x, y)},
	} {
		gone, come := apply.Between(c.a, c.b)
		if !slices.Equal(gone, c.gone) || !slices.Equal(come, c.new) {
			t.Errorf("Between(%+v, %+v) = %+v, %+v", c.a, c.b, gone, come)
		}
	}
}

func TestBetweenIsWhatADeltaNeeds(t *testing.T) {
	a, b := zone.Zone{w, x, y, at(1)}, zone.Zone{x, z, at(2)}
	gone, come := apply.Between(a, b)
	d := stream.Delta{From: at(1), To: at(2), Gone: gone[:len(gone)-1], New: come[:len(come)-1]}
	if got, err := apply.Deltas(origin, a, []stream.Delta{d}); err != nil || !slices.Equal(got, b) {
		t.Errorf("%+v, %v", got, err)
	}
}

// P10.2

func TestDelta(t *testing.T) {
	from := func() zone.Zone { return zone.Zone{x, y, at(1)} }
	other := at(1)
	other.TTL++
	for why, c := range map[string]struct {
		z    zone.Zone
		d    stream.Delta
		want zone.Zone
		err  error
	}{
		"one goes, one comes":             {from(), delta(at(1), at(2), list(x), list(z)), zone.Zone{y, z, at(2)}, nil},
		"nothing but the SOA":             {from(), delta(at(1), at(2), nil, nil), zone.Zone{x, y, at(2)}, nil},
		"the same SOA":                    {from(), delta(at(1), at(1), list(y, x), nil), zone.Zone{at(1)}, nil},
		"what goes comes again":           {from(), delta(at(1), at(2), list(x), list(x)), zone.Zone{x, y, at(2)}, nil},
		"no zone behind it":               {from(), delta(at(1), alien, nil, nil), zone.Zone{alien, x, y}, nil},
		"too much behind it":              {zone.Zone{at(1)}, delta(at(1), at(2), nil, many(256, 20)), append(many(256, 20), at(2)), nil},
		"another SOA":                     {from(), delta(at(2), at(3), nil, nil), nil, api.ErrSerial},
		"another TTL":                     {from(), delta(other, at(3), nil, nil), nil, api.ErrSerial},
		"no SOA":                          {zone.Zone{x, y}, delta(x, at(3), nil, nil), nil, api.ErrSerial},
		"no SOA, and none from":           {zone.Zone{x, y}, stream.Delta{}, nil, api.ErrSerial},
		"nothing":                         {nil, delta(at(1), at(2), nil, nil), nil, api.ErrSerial},
		"nothing, and nothing from":       {nil, stream.Delta{}, nil, api.ErrSerial},
		"another SOA, and one is missing": {from(), delta(at(2), at(3), list(z), list(x)), nil, api.ErrSerial},
		"one is missing":                  {from(), delta(at(1), at(2), list(z), nil), nil, api.ErrMissing},
		"one goes twice":                  {from(), delta(at(1), at(2), list(x, x), nil), nil, api.ErrMissing},
		"the SOA goes twice":              {from(), delta(at(1), at(2), list(at(1)), nil), nil, api.ErrMissing},
		"one is there":                    {from(), delta(at(1), at(2), nil, list(x)), nil, api.ErrTwice},
		"one comes twice":                 {from(), delta(at(1), at(2), nil, list(z, z)), nil, api.ErrTwice},
		"the SOA comes twice":             {from(), delta(at(1), at(2), nil, list(at(2))), nil, api.ErrTwice},
		"the old SOA comes again":         {from(), delta(at(1), at(2), nil, list(at(1))), zone.Zone{x, y, at(1), at(2)}, nil},
		"missing comes ahead of twice":    {from(), delta(at(1), at(2), list(z), list(x)), nil, api.ErrMissing},
	} {
		slices.SortFunc(c.want, zone.Compare)
		before := slices.Clone(c.z)
		got, err := apply.Delta(c.z, c.d)
		if !errors.Is(err, c.err) || !slices.Equal(got, c.want) {
			t.Errorf("%s: %+v, %v", why, got, err)
		}
		if !slices.Equal(c.z, before) {
			t.Errorf("%s: the zone has changed", why)
		}
	}
}

func TestDeltas(t *testing.T) {
	from := zone.Zone{x, y, at(1)}
	up := func(n uint32, gone, come []api.Record) stream.Delta {
		return stream.Delta{From: at(n), To: at(n + 1), Gone: gone, New: come}
	}
	for why, c := range map[string]struct {
		z    zone.Zone
		ds   []stream.Delta
		want zone.Zone
		err  error
	}{
		"none":                             {from, nil, from, nil},
		"none of no zone":                  {nil, nil, nil, api.ErrStream},
		"none of too much":                 {append(many(256, 20), at(1)), nil, nil, api.ErrQuota},
		"none of a zone that is not right": {zone.Zone{alien, at(1)}, nil, nil, api.ErrStream},
		"one":                              {from, []stream.Delta{up(1, list(x), list(z))}, zone.Zone{y, z, at(2)}, nil},
		"one behind the other":             {from, []stream.Delta{up(1, list(x), list(z)), up(2, list(z), list(x, w))}, zone.Zone{w, x, y, at(3)}, nil},
		"not in order":                     {from, []stream.Delta{up(2, nil, nil), up(1, nil, nil)}, nil, api.ErrSerial},
		"one from a serial ahead":          {from, []stream.Delta{up(1, nil, nil), up(1, nil, nil)}, nil, api.ErrSerial},
		"one is missing, later on":         {from, []stream.Delta{up(1, list(x), nil), up(2, list(x), nil)}, nil, api.ErrMissing},
		"one is there, later on":           {from, []stream.Delta{up(1, nil, list(z)), up(2, nil, list(z))}, nil, api.ErrTwice},
		"the first error":                  {from, []stream.Delta{up(1, nil, list(x)), up(7, nil, nil)}, nil, api.ErrTwice},
		"too much behind them":             {from, []stream.Delta{up(1, nil, many(256, 20))}, nil, api.ErrQuota},
		"too many bytes behind them":       {from, []stream.Delta{up(1, nil, many(100, 170))}, nil, api.ErrQuota},
		"too much on the way":              {from, []stream.Delta{up(1, nil, many(256, 20)), up(2, many(256, 20), nil)}, zone.Zone{x, y, at(3)}, nil},
		"an alien behind them":             {from, []stream.Delta{up(1, nil, list(alien))}, nil, api.ErrStream},
		"an alien on the way":              {from, []stream.Delta{up(1, nil, list(alien)), up(2, list(alien), nil)}, zone.Zone{x, y, at(3)}, nil},
		"too much, and an alien":           {from, []stream.Delta{up(1, nil, append(many(256, 20), alien))}, nil, api.ErrQuota},
		"no SOA behind them":               {from, []stream.Delta{delta(at(1), z, nil, nil)}, nil, api.ErrStream},
	} {
		slices.SortFunc(c.want, zone.Compare)
		before := slices.Clone(c.z)
		got, err := apply.Deltas(origin, c.z, c.ds)
		if !errors.Is(err, c.err) || !slices.Equal(got, c.want) {
			t.Errorf("%s: %+v, %v", why, got, err)
		}
		if !slices.Equal(c.z, before) {
			t.Errorf("%s: the zone has changed", why)
		}
	}
}

func TestZonesShareNothing(t *testing.T) {
	from := zone.Zone{x, y, at(1)}
	rs := list(at(1), x)
	unchanged, _ := apply.Deltas(origin, from, nil)
	whole, _ := apply.Replace(origin, rs)
	gone, come := apply.Between(from, zone.Zone{z})
	for _, l := range [][]api.Record{unchanged, whole, gone, come} {
		for i := range l {
			l[i] = alien
		}
	}
	if !slices.Equal(from, zone.Zone{x, y, at(1)}) || !slices.Equal(rs, list(at(1), x)) {
		t.Errorf("%+v and %+v have changed", from, rs)
	}
}
