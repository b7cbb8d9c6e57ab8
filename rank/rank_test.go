package rank_test

import (
	"math"
	"strings"
	"testing"

	"bolter/api"
	"bolter/rank"
)

func named(kind api.TriggerKind, n api.Name) api.Trigger { return api.Trigger{Kind: kind, Name: n} }

func net(kind api.TriggerKind, size, bits int) api.Trigger {
	return api.Trigger{Kind: kind, Prefix: api.Prefix{Addr: strings.Repeat("\x00", size), Bits: bits}}
}

var long = api.Name(strings.Repeat("\x01x", 127))

// P18.1

func TestOf(t *testing.T) {
	for _, c := range []struct {
		zone         int
		t            api.Trigger
		want         complex128
		step, length int
	}{
		{3, named(api.QName, "\x01a\x01b"), 3 + 509i, 1, 2},
		{0, net(api.ClientIP, 4, 0), 255i, 0, 0},
		{0, net(api.ClientIP, 4, 32), 223i, 0, 32},
		{5, net(api.ClientIP, 16, 128), 5 + 127i, 0, 128},
		{1, named(api.QName, "\x02ab"), 1 + 510i, 1, 1},
		{1, named(api.QName, long), 1 + 384i, 1, 127},
		{1, named(api.QWild, ""), 1 + 767i, 2, 0},
		{1, named(api.QWild, "\x01a"), 1 + 766i, 2, 1},
		{1, named(api.QWild, long[2:]), 1 + 641i, 2, 126},
		{2, net(api.AnswerIP, 4, 24), 2 + 999i, 3, 24},
		{2, net(api.AnswerIP, 16, 0), 2 + 1023i, 3, 0},
		{31, named(api.NsName, "\x01a\x01b\x01c"), 31 + 1276i, 4, 3},
		{31, named(api.NsWild, "\x01a"), 31 + 1534i, 5, 1},
		{31, named(api.NsWild, ""), 31 + 1535i, 5, 0},
		{7, net(api.NsIP, 4, 1), 7 + 1790i, 6, 1},
		{7, net(api.NsIP, 16, 128), 7 + 1663i, 6, 128},
		{1 << 40, named(api.QName, "\x01a"), 1<<40 + 510i, 1, 1},
		{1<<40 - 1, net(api.NsIP, 4, 0), 1<<40 - 1 + 1791i, 6, 0},
	} {
		got := rank.Of(c.zone, c.t)
		if got != c.want {
			t.Errorf("Of(%d, %+v) = %v, want %v", c.zone, c.t, got, c.want)
		}
		if z, s, l := rank.Zone(got), rank.Step(got), rank.Length(got); z != c.zone || s != c.step || l != c.length {
			t.Errorf("%v is of the zone %d, step %d, length %d, want %d, %d, %d", got, z, s, l, c.zone, c.step, c.length)
		}
	}
}

func TestOfOtherKinds(t *testing.T) {
	for _, kind := range []api.TriggerKind{-1, 7, 8, 100, math.MaxInt, math.MinInt} {
		for _, tr := range []api.Trigger{{Kind: kind}, named(kind, "\x01a\x01b"), net(kind, 4, 24), net(kind, 16, 128)} {
			if got := rank.Of(4, tr); got != 4+1792i {
				t.Errorf("Of(4, %+v) = %v", tr, got)
			}
		}
	}
}

func TestOfOddTriggers(t *testing.T) {
	for _, c := range []struct {
		t    api.Trigger
		want complex128
	}{
		// the prefix counts if it has an address, of whatever kind
		{api.Trigger{Kind: api.QName, Name: "\x01a", Prefix: api.Prefix{Addr: "abcd", Bits: 9}}, 2 + 502i},
		{api.Trigger{Kind: api.ClientIP, Name: "\x01a\x01b"}, 2 + 253i},
		{api.Trigger{Kind: api.ClientIP, Name: "\x01a\x01b", Prefix: api.Prefix{Bits: 9}}, 2 + 253i},
		{api.Trigger{Kind: api.AnswerIP, Prefix: api.Prefix{Addr: "x", Bits: 1}}, 2 + 1022i},
		{named(api.QName, "no name"), 2 + 511i},
		{named(api.QName, "\x01A"), 2 + 511i},
		{net(api.NsIP, 4, 300), 2 + 1491i},
		{net(api.ClientIP, 4, 300), 2 - 45i},
		{net(api.ClientIP, 4, -1), 2 + 256i},
	} {
		if got := rank.Of(2, c.t); got != c.want {
			t.Errorf("Of(2, %+v) = %v, want %v", c.t, got, c.want)
		}
	}
	if got := rank.Of(-3, named(api.QName, "\x01a")); got != -3+510i {
		t.Error(got)
	}
}

func TestOfEachLength(t *testing.T) {
	for bits := range 129 {
		for step, kind := range map[int]api.TriggerKind{0: api.ClientIP, 3: api.AnswerIP, 6: api.NsIP} {
			r := rank.Of(9, net(kind, 16, bits))
			if r != complex(9, float64(256*step+255-bits)) || rank.Zone(r) != 9 || rank.Step(r) != step || rank.Length(r) != bits {
				t.Errorf("%d bits of the kind %d have the rank %v", bits, kind, r)
			}
		}
	}
	for labels := range 128 {
		for step, kind := range map[int]api.TriggerKind{1: api.QName, 2: api.QWild, 4: api.NsName, 5: api.NsWild} {
			r := rank.Of(9, named(kind, long[:2*labels]))
			if r != complex(9, float64(256*step+255-labels)) || rank.Zone(r) != 9 || rank.Step(r) != step || rank.Length(r) != labels {
				t.Errorf("%d labels of the kind %d have the rank %v", labels, kind, r)
			}
		}
	}
}

func TestAnyNumbersEnd(t *testing.T) {
	odd := []float64{0, -1, 0.5, 1e300, -1e300, math.Inf(1), math.Inf(-1), math.NaN(), math.MaxInt64, 1 << 62}
	for _, re := range odd {
		for _, im := range odd {
			r := complex(re, im)
			rank.Zone(r)
			rank.Step(r)
			rank.Length(r)
			rank.Better(r, 1)
			rank.Better(1, r)
			rank.First(r, 1, r, complex(im, re))
		}
	}
}

// P18.2

func TestBetter(t *testing.T) {
	// each one goes ahead of all behind it
	rising := []complex128{complex(math.Inf(-1), 5), -1e300, -2 + 9i, -1 - 5i, -1, complex(0, math.Inf(-1)), -3i, 0, 1i, 509i, 510i, complex(0, math.Inf(1)), 1 - 7i, 1, 1 + 1792i, 2, 1 << 40, complex(math.Inf(1), 0)}
	for i, a := range rising {
		for k, b := range rising {
			if got := rank.Better(a, b); got != (i < k) {
				t.Errorf("Better(%v, %v) = %v", a, b, got)
			}
		}
	}
	minus := math.Copysign(0, -1)
	for _, c := range [][2]complex128{{0, complex(minus, 0)}, {0, complex(0, minus)}, {complex(minus, minus), 0}} {
		if rank.Better(c[0], c[1]) || rank.Better(c[1], c[0]) {
			t.Errorf("of %v one is better", c)
		}
	}
	if !rank.Better(complex(minus, 1), 2i) || !rank.Better(1i, complex(minus, 2)) {
		t.Error("zeros of another sign are not alike")
	}
}

func TestFirst(t *testing.T) {
	for _, c := range []struct {
		rs   []complex128
		want int
	}{
		{nil, -1},
		{[]complex128{}, -1},
		{[]complex128{5 + 5i}, 0},
		{[]complex128{1, 2, 3}, 0},
		{[]complex128{3, 2, 1}, 2},
		{[]complex128{2, 1, 3}, 1},
		{[]complex128{1 + 3i, 1 + 2i, 1 + 1i, 1 + 2i}, 2},
		{[]complex128{1 + 1i, 0 + 9i}, 1},
		{[]complex128{2, 1, 1, 2, 1}, 1},
		{[]complex128{7, 7, 7}, 0},
		{[]complex128{7 + 2i, 7 + 1i, 7 + 1i, 8}, 1},
		{[]complex128{0, -1}, 1},
		{[]complex128{complex(0, math.Copysign(0, -1)), 0}, 0},
		{[]complex128{0, complex(math.Copysign(0, -1), 0)}, 0},
		{[]complex128{complex(math.Inf(1), 0), 1, complex(math.Inf(-1), 0)}, 2},
	} {
		if got := rank.First(c.rs...); got != c.want {
			t.Errorf("First(%v) = %d, want %d", c.rs, got, c.want)
		}
	}
}

func TestRanksOrderTriggers(t *testing.T) {
	// of one zone, each trigger goes ahead of all behind it; and of another zone, the zone decides
	order := []api.Trigger{
		net(api.ClientIP, 16, 128), net(api.ClientIP, 4, 32), net(api.ClientIP, 4, 0),
		named(api.QName, long), named(api.QName, "\x01a"), named(api.QWild, long[2:]), named(api.QWild, ""),
		net(api.AnswerIP, 16, 128), net(api.AnswerIP, 4, 1), named(api.NsName, "\x01a\x01b"), named(api.NsName, "\x01a"), named(api.NsWild, "\x01a\x01b"), named(api.NsWild, ""),
		net(api.NsIP, 16, 64), net(api.NsIP, 4, 0), {Kind: 7},
	}
	for i, a := range order {
		for k, b := range order {
			if got := rank.Better(rank.Of(3, a), rank.Of(3, b)); got != (i < k) {
				t.Errorf("%+v goes ahead of %+v: %v", a, b, got)
			}
			if !rank.Better(rank.Of(2, a), rank.Of(3, b)) || rank.Better(rank.Of(3, a), rank.Of(2, b)) {
				t.Errorf("%+v does not go ahead of %+v by its zone", a, b)
			}
		}
	}
}
