package stream_test

import (
	"errors"
	"math"
	"slices"
	"testing"

	"bolter/api"
	"bolter/soa"
	"bolter/stream"
)

const origin = "\x03rpz"

// at is the origin's SOA of a serial number.
func at(serial uint32) api.Record {
	d, _ := soa.Data(soa.Soa{Serial: serial, Refresh: 1})
	return api.Record{Name: origin, Type: api.SOA, TTL: 60, Data: d}
}

func rec(n string) api.Record {
	return api.Record{Name: api.Name([]byte{byte(len(n))}) + api.Name(n) + origin, Type: api.CNAME, TTL: 60}
}

func list(rs ...api.Record) []api.Record { return rs }

// otherTTL is a record that is like another one, but for its TTL.
func otherTTL(r api.Record) api.Record {
	r.TTL++
	return r
}

var x, y, z, u = rec("x"), rec("y"), rec("z"), rec("u")

// notAdmissible are lists that are no transfer at all.
func notAdmissible() map[string][]api.Record {
	below, stranger, bad, badSoa := at(3), rec("q"), rec("q"), at(3)
	below.Name = x.Name
	stranger.Name = "\x01q"
	bad.Type, bad.Data = api.A, "abc"
	badSoa.Data += "x"
	return map[string][]api.Record{
		"nothing":                           nil,
		"no SOA first":                      list(x, at(3)),
		"no SOA first and last":             list(x, at(3), x),
		"no SOA alone":                      list(x),
		"an SOA of another name":            list(at(3), below, at(3)),
		"an SOA of another name first":      list(below, x, below),
		"an SOA of another name alone":      list(below),
		"a name that is not below":          list(at(3), stranger, at(3)),
		"a record that may not be":          list(at(3), bad, at(3)),
		"a record that may not be, last":    list(at(3), x, bad),
		"an OPT":                            list(at(3), api.Record{Name: origin, Type: api.OPT}, at(3)),
		"an SOA that may not be":            list(badSoa, x, badSoa),
		"an SOA that may not be, alone":     list(badSoa),
		"an SOA of the origin's look-alike": list(api.Record{Name: "\x04\x03rpz", Type: api.SOA, Data: at(3).Data}),
	}
}

// P9.1

func TestFull(t *testing.T) {
	for why, c := range map[string]struct {
		rs   []api.Record
		want []api.Record
	}{
		"a zone":         {list(at(3), x, y, at(3)), list(at(3), x, y)},
		"an SOA twice":   {list(at(3), at(3)), list(at(3))},
		"a record twice": {list(at(3), y, x, y, at(3)), list(at(3), y, x, y)},
		"records at the origin": {list(at(0), api.Record{Name: origin, Type: api.NS, Data: "\x01n"}, at(0)),
			list(at(0), api.Record{Name: origin, Type: api.NS, Data: "\x01n"})},
	} {
		if got, err := stream.Full(origin, c.rs); err != nil || !slices.Equal(got, c.want) {
			t.Errorf("%s: %+v, %v", why, got, err)
		}
		// as the answer to a request for changes it is the same
		if got, err := stream.Part(origin, 1, c.rs); err != nil || got.Same || len(got.Deltas) != 0 || !slices.Equal(got.All, c.want) {
			t.Errorf("%s: Part is %+v, %v", why, got, err)
		}
	}
}

func TestFullOfNoZone(t *testing.T) {
	cases := notAdmissible()
	cases["an SOA alone"] = list(at(3))
	cases["no SOA last"] = list(at(3), x)
	cases["another SOA last"] = list(at(3), x, at(4))
	cases["another TTL last"] = list(at(3), x, otherTTL(at(3)))
	cases["an SOA between"] = list(at(3), x, at(2), at(3))
	cases["the same SOA between"] = list(at(3), at(3), at(3))
	cases["the same SOA between, first"] = list(at(3), at(3), x, at(3))
	for why, rs := range cases {
		if got, err := stream.Full(origin, rs); !errors.Is(err, api.ErrStream) || len(got) != 0 {
			t.Errorf("%s: %+v, %v", why, got, err)
		}
	}
	if got, err := stream.Full("\x01q", list(at(3), x, at(3))); !errors.Is(err, api.ErrStream) || len(got) != 0 {
		t.Errorf("another origin: %+v, %v", got, err)
	}
	if got, err := stream.Full("", list(at(3), x, at(3))); !errors.Is(err, api.ErrStream) || len(got) != 0 {
		t.Errorf("the root as the origin: %+v, %v", got, err)
	}
}

func TestFullOfTheRoot(t *testing.T) {
	s := at(3)
	s.Name = ""
	if got, err := stream.Full("", list(s, x, s)); err != nil || !slices.Equal(got, list(s, x)) {
		t.Errorf("%+v, %v", got, err)
	}
}

// P9.2

func sameDelta(a, b stream.Delta) bool {
	return a.From == b.From && a.To == b.To && slices.Equal(a.Gone, b.Gone) && slices.Equal(a.New, b.New)
}

func same(a, b stream.Result) bool {
	return a.Same == b.Same && slices.Equal(a.All, b.All) && slices.EqualFunc(a.Deltas, b.Deltas, sameDelta)
}

func TestPart(t *testing.T) {
	for why, c := range map[string]struct {
		from uint32
		rs   []api.Record
		want stream.Result
		err  error
	}{
		"nothing new":                {3, list(at(3)), stream.Result{Same: true}, nil},
		"nothing new, of serial 0":   {0, list(at(0)), stream.Result{Same: true}, nil},
		"another serial alone":       {2, list(at(3)), stream.Result{}, api.ErrSerial},
		"an older serial alone":      {4, list(at(3)), stream.Result{}, api.ErrSerial},
		"the example":                {2, list(at(3), at(2), x, at(3), y, at(3)), stream.Result{Deltas: []stream.Delta{{at(2), at(3), list(x), list(y)}}}, nil},
		"a delta of nothing":         {2, list(at(3), at(2), at(3), at(3)), stream.Result{Deltas: []stream.Delta{{at(2), at(3), nil, nil}}}, nil},
		"nothing gone":               {2, list(at(3), at(2), at(3), x, y, at(3)), stream.Result{Deltas: []stream.Delta{{at(2), at(3), nil, list(x, y)}}}, nil},
		"nothing come":               {2, list(at(3), at(2), x, y, at(3), at(3)), stream.Result{Deltas: []stream.Delta{{at(2), at(3), list(x, y), nil}}}, nil},
		"as they come":               {2, list(at(3), at(2), y, x, y, at(3), z, u, z, at(3)), stream.Result{Deltas: []stream.Delta{{at(2), at(3), list(y, x, y), list(z, u, z)}}}, nil},
		"two deltas":                 {1, list(at(3), at(1), x, at(2), y, at(2), z, at(3), u, at(3)), stream.Result{Deltas: []stream.Delta{{at(1), at(2), list(x), list(y)}, {at(2), at(3), list(z), list(u)}}}, nil},
		"three deltas of nothing":    {9, list(at(12), at(9), at(10), at(10), at(11), at(11), at(12), at(12)), stream.Result{Deltas: []stream.Delta{{at(9), at(10), nil, nil}, {at(10), at(11), nil, nil}, {at(11), at(12), nil, nil}}}, nil},
		"round the greatest number":  {math.MaxUint32, list(at(1), at(math.MaxUint32), at(1), x, at(1)), stream.Result{Deltas: []stream.Delta{{at(math.MaxUint32), at(1), nil, list(x)}}}, nil},
		"deltas to and fro":          {3, list(at(3), at(3), x, at(2), at(2), at(3), at(3)), stream.Result{Deltas: []stream.Delta{{at(3), at(2), list(x), nil}, {at(2), at(3), nil, nil}}}, nil},
		"a delta from an other TTL":  {2, list(at(3), otherTTL(at(2)), at(3), at(3)), stream.Result{Deltas: []stream.Delta{{otherTTL(at(2)), at(3), nil, nil}}}, nil},
		"the SOA twice":              {2, list(at(3), at(3)), stream.Result{All: list(at(3))}, nil},
		"a zone of the same serial":  {3, list(at(3), x, at(3)), stream.Result{All: list(at(3), x)}, nil},
		"another serial first":       {1, list(at(3), at(2), x, at(3), y, at(3)), stream.Result{}, api.ErrSerial},
		"another serial in between":  {1, list(at(4), at(1), at(2), at(3), at(4), at(4)), stream.Result{}, api.ErrSerial},
		"an SOA of another serial":   {2, list(at(3), at(3), at(3)), stream.Result{}, api.ErrSerial},
		"no SOA first, and no zone":  {2, list(at(3), x, at(2), y, at(3)), stream.Result{}, api.ErrStream},
		"no To":                      {2, list(at(3), at(2), x), stream.Result{}, api.ErrStream},
		"no To, but the last SOA":    {2, list(at(3), at(2), x, at(3)), stream.Result{}, api.ErrStream},
		"no To at all":               {2, list(at(3), at(2), at(3)), stream.Result{}, api.ErrStream},
		"no second To":               {1, list(at(3), at(1), at(2), at(2), at(3)), stream.Result{}, api.ErrStream},
		"no deltas":                  {2, list(at(3), x), stream.Result{}, api.ErrStream},
		"no deltas, by an SOA":       {2, list(at(3), at(2)), stream.Result{}, api.ErrStream},
		"no deltas, and no SOA last": {3, list(at(3), otherTTL(at(3))), stream.Result{}, api.ErrStream},
		"no SOA last":                {2, list(at(3), at(2), x, at(3), y), stream.Result{}, api.ErrStream},
		"another SOA last":           {2, list(at(3), at(2), x, at(3), y, at(4)), stream.Result{}, api.ErrStream},
		"another TTL last":           {2, list(at(3), at(2), x, at(3), y, otherTTL(at(3))), stream.Result{}, api.ErrStream},
		"another To at the end":      {1, list(at(3), at(1), x, at(2), y, at(3)), stream.Result{}, api.ErrStream},
		"another TTL of To":          {2, list(at(3), at(2), x, otherTTL(at(3)), y, at(3)), stream.Result{}, api.ErrStream},
		"another first":              {2, list(at(4), at(2), x, at(3), y, at(3)), stream.Result{}, api.ErrStream},
		"a wrong serial, no end":     {2, list(at(3), at(7), at(3), x), stream.Result{}, api.ErrSerial},
		"a wrong serial, no To":      {2, list(at(3), at(7), x), stream.Result{}, api.ErrSerial},
	} {
		got, err := stream.Part(origin, c.from, c.rs)
		if !errors.Is(err, c.err) || !same(got, c.want) {
			t.Errorf("%s: %+v, %v, want %+v, %v", why, got, err, c.want, c.err)
		}
	}
}

func TestPartOfNoTransfer(t *testing.T) {
	for why, rs := range notAdmissible() {
		for _, from := range []uint32{0, 2, 3} {
			if got, err := stream.Part(origin, from, rs); !errors.Is(err, api.ErrStream) || !same(got, stream.Result{}) {
				t.Errorf("%s: %+v, %v", why, got, err)
			}
		}
	}
	// What is no transfer is so first: not of another serial.
	bad := x
	bad.Name = "\x01q"
	if got, err := stream.Part(origin, 2, list(at(3), at(7), bad, at(3), at(3))); !errors.Is(err, api.ErrStream) || !same(got, stream.Result{}) {
		t.Errorf("%+v, %v", got, err)
	}
}

func TestTransfersAreLeftAlone(t *testing.T) {
	rs := list(at(2), at(1), x, at(2), y, at(2))
	full := list(at(2), x, y, at(2))
	got, _ := stream.Part(origin, 1, rs)
	whole, _ := stream.Part(origin, 1, full)
	all, _ := stream.Full(origin, full)
	for _, l := range [][]api.Record{got.Deltas[0].Gone, got.Deltas[0].New, whole.All, all} {
		for i := range l {
			l[i] = u
		}
		_ = append(l, u)
	}
	if !slices.Equal(rs, list(at(2), at(1), x, at(2), y, at(2))) || !slices.Equal(full, list(at(2), x, y, at(2))) {
		t.Errorf("the records have become %+v and %+v", rs, full)
	}
}

// P9.3

func TestDone(t *testing.T) {
	for why, c := range map[string]struct {
		rs   []api.Record
		want bool
	}{
		"nothing":                            {nil, false},
		"an SOA":                             {list(at(3)), true},
		"a record":                           {list(x), true},
		"a zone begun":                       {list(at(3), x), false},
		"a zone further on":                  {list(at(3), x, y, z), false},
		"a zone with another SOA":            {list(at(3), x, y, at(2)), false},
		"a zone with another TTL":            {list(at(3), x, y, otherTTL(at(3))), false},
		"a zone":                             {list(at(3), x, y, at(3)), true},
		"a zone and more":                    {list(at(3), x, at(3), y), true},
		"an SOA twice":                       {list(at(3), at(3)), true},
		"an SOA twice and more":              {list(at(3), at(3), x), true},
		"deltas begun":                       {list(at(3), at(2)), false},
		"deltas begun, from another TTL":     {list(at(3), otherTTL(at(3))), false},
		"deltas further on":                  {list(at(3), at(2), x), false},
		"deltas with the second of three":    {list(at(3), at(2), x, at(3), y), false},
		"deltas with another last":           {list(at(3), at(2), x, at(3), y, at(2)), false},
		"deltas":                             {list(at(3), at(2), x, at(3), y, at(3)), true},
		"deltas of nothing":                  {list(at(3), at(2), at(3), at(3)), true},
		"deltas and more":                    {list(at(3), at(2), at(3), at(3), at(3), x), true},
		"records without an SOA":             {list(x, y), false},
		"records without an SOA, twice":      {list(x, y, x), true},
		"records of which the second is one": {list(x, at(3), x), false},
		"and thrice":                         {list(x, at(3), x, x), true},
		"an SOA of another name second":      {list(at(3), api.Record{Name: "\x01q", Type: api.SOA}, at(3)), false},
	} {
		if got := stream.Done(c.rs); got != c.want {
			t.Errorf("%s: Done is %v", why, got)
		}
	}
}
