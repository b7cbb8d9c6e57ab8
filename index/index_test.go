package index_test

import (
	"math"
	"strings"
	"testing"

	"bolter/api"
	"bolter/index"
	"bolter/name"
	"bolter/prefix"
)

func named(kind api.TriggerKind, n api.Name) api.Trigger { return api.Trigger{Kind: kind, Name: n} }

// net is a trigger of the first bits of an address.
func net(kind api.TriggerKind, a string, bits int) api.Trigger {
	p, _ := prefix.Cut(a, bits)
	return api.Trigger{Kind: kind, Prefix: p}
}

const v4 = "\xc0\x00\x02\x09"

var (
	v6       = "\x20\x01\x0d\xb8" + strings.Repeat("\x00", 11) + "\x05"
	long     = api.Name(strings.Repeat("\x01x", 127))
	kinds    = []api.TriggerKind{api.ClientIP, api.AnswerIP, api.NsIP}
	nameKind = [][2]api.TriggerKind{{api.QName, api.QWild}, {api.NsName, api.NsWild}}
)

// model is an index beside a map of its triggers.
type model struct {
	t     *testing.T
	index *index.Index
	all   map[api.Trigger]int
}

func newModel(t *testing.T) *model {
	return &model{t: t, index: index.Of(), all: map[api.Trigger]int{}}
}

func (m *model) put(tr api.Trigger, value int) {
	m.t.Helper()
	_, has := m.all[tr]
	if got := m.index.Put(tr, value); got == has {
		m.t.Errorf("Put(%+v) = %v", tr, got)
	}
	m.all[tr] = value
	m.len()
}

func (m *model) del(tr api.Trigger) {
	m.t.Helper()
	_, has := m.all[tr]
	if got := m.index.Del(tr); got != has {
		m.t.Errorf("Del(%+v) = %v", tr, got)
	}
	delete(m.all, tr)
	m.len()
}

func (m *model) len() {
	m.t.Helper()
	if got := m.index.Len(); got != len(m.all) {
		m.t.Errorf("Len = %d, want %d", got, len(m.all))
	}
}

func (m *model) name(exact, wild api.TriggerKind, n api.Name) {
	m.t.Helper()
	want, value, found := api.Trigger{}, 0, false
	for tr, v := range m.all {
		if tr.Kind == wild && tr.Name != n && name.Below(n, tr.Name) && (!found || len(tr.Name) > len(want.Name)) {
			want, value, found = tr, v, true
		}
	}
	if v, ok := m.all[named(exact, n)]; ok {
		want, value, found = named(exact, n), v, true
	}
	if v, tr, ok := m.index.Name(exact, wild, n); v != value || tr != want || ok != found {
		m.t.Errorf("Name(%d, %d, %q) = %d, %+v, %v, want %d, %+v, %v", exact, wild, n, v, tr, ok, value, want, found)
	}
}

func (m *model) addr(kind api.TriggerKind, a string) {
	m.t.Helper()
	want, value, found := api.Trigger{}, 0, false
	for tr, v := range m.all {
		if tr.Kind == kind && prefix.Has(tr.Prefix, a) && (!found || tr.Prefix.Bits > want.Prefix.Bits) {
			want, value, found = tr, v, true
		}
	}
	if v, tr, ok := m.index.Addr(kind, a); v != value || tr != want || ok != found {
		m.t.Errorf("Addr(%d, %q) = %d, %+v, %v, want %d, %+v, %v", kind, a, v, tr, ok, value, want, found)
	}
}

// askNames asks for all names of up to three labels of two.
func (m *model) askNames() {
	m.t.Helper()
	for _, n := range names() {
		for _, k := range nameKind {
			m.name(k[0], k[1], n)
		}
	}
}

func names() []api.Name {
	out := []api.Name{""}
	for i := 0; len(out[i]) < 6; i++ {
		out = append(out, "\x01a"+out[i], "\x01b"+out[i])
	}
	return out
}

func (m *model) askAddrs() {
	m.t.Helper()
	for _, kind := range append([]api.TriggerKind{api.QName, api.QWild, api.NsName, api.NsWild, 7, -1}, kinds...) {
		for i := range 33 {
			a := []byte(v4)
			if i < 32 {
				a[i/8] ^= 128 >> (i % 8)
			}
			m.addr(kind, string(a))
		}
		for i := range 129 {
			a := []byte(v6)
			if i < 128 {
				a[i/8] ^= 128 >> (i % 8)
			}
			m.addr(kind, string(a))
		}
		for _, a := range []string{"", "abc", "abcde", v6[:15], v6 + "x", v6[:4]} {
			m.addr(kind, a)
		}
	}
}

// P17.1

func TestNothing(t *testing.T) {
	m := newModel(t)
	m.len()
	m.askNames()
	m.askAddrs()
	for _, tr := range []api.Trigger{named(api.QName, "\x01a"), named(api.QWild, ""), net(api.ClientIP, v4, 24), net(api.NsIP, v6, 0)} {
		m.del(tr)
	}
}

func TestTriggers(t *testing.T) {
	m := newModel(t)
	var all []api.Trigger
	for _, k := range nameKind {
		all = append(all, named(k[0], "\x01a"), named(k[1], "\x01a"), named(k[1], ""), named(k[0], "\x01a\x01b"), named(k[1], "\x01a\x01b"))
	}
	for _, k := range kinds {
		all = append(all, net(k, v4, 0), net(k, v4, 24), net(k, v4, 32), net(k, v6, 0), net(k, v6, 24), net(k, v6, 32), net(k, v6, 128), net(k, v6[:4], 32))
	}
	for i, tr := range all {
		m.put(tr, i)
	}
	m.askNames()
	m.askAddrs()
	for i, tr := range all {
		m.put(tr, -i)
	}
	m.askNames()
	m.askAddrs()
	for i, tr := range all {
		if i%2 == 0 {
			m.del(tr)
			m.del(tr)
		}
	}
	m.askNames()
	m.askAddrs()
	for _, tr := range all {
		m.put(tr, 1000)
	}
	for _, tr := range all {
		m.del(tr)
	}
	m.askNames()
	m.askAddrs()
}

func TestEachTriggerIsOneOfItsOwn(t *testing.T) {
	var all []api.Trigger
	for _, k := range nameKind {
		all = append(all, named(k[0], "\x01a"), named(k[1], "\x01a"))
	}
	for _, k := range kinds {
		all = append(all, net(k, v4, 8), net(k, v4, 9), net(k, v6, 8))
	}
	for _, one := range all {
		m := newModel(t)
		m.put(one, 5)
		m.askNames()
		m.askAddrs()
		for _, other := range all {
			if other != one {
				m.del(other)
			}
		}
		m.del(one)
	}
}

func TestTriggersThatAreNoNames(t *testing.T) {
	m := newModel(t)
	m.put(named(api.QName, "\x01a"), 1)
	m.put(named(api.QWild, "\x01a"), 2)
	m.put(net(api.AnswerIP, v4, 24), 3)
	for _, tr := range []api.Trigger{
		{}, {Kind: api.QName}, {Kind: api.NsName}, named(api.QName, "a"), named(api.QName, "\x01A"), named(api.QWild, "\x01a\x00"), named(api.QName, "\x01*\x01a"),
		named(api.QName, "\x01a\x06rpz-ip"), named(api.QWild, long), named(api.QWild, "\x0brpz-nsdname"), named(api.ClientIP, "\x01a"), named(7, "\x01a"), named(-1, "\x01a"), named(257, "\x01a"), named(258, "\x01a"),
		{Kind: api.QName, Name: "\x01a", Prefix: api.Prefix{Bits: 1}}, {Kind: api.QWild, Name: "\x01a", Prefix: api.Prefix{Addr: v4, Bits: 32}},
		{Kind: api.AnswerIP, Prefix: api.Prefix{Addr: v4, Bits: 24}}, {Kind: api.AnswerIP, Prefix: api.Prefix{Addr: v4, Bits: 33}}, {Kind: api.AnswerIP, Prefix: api.Prefix{Addr: "abc", Bits: 8}},
		{Kind: api.AnswerIP, Name: "\x01a", Prefix: api.Prefix{Addr: "\xc0\x00\x02\x00", Bits: 24}},
	} {
		if m.index.Put(tr, 9) {
			t.Errorf("Put(%+v) is true", tr)
		}
		m.len()
		if m.index.Del(tr) {
			t.Errorf("Del(%+v) is true", tr)
		}
		m.len()
	}
	m.askNames()
	m.askAddrs()
}

// P17.2

func TestTheExample(t *testing.T) {
	m := newModel(t)
	m.put(named(api.QWild, "\x02ex"), 1)
	m.put(named(api.QWild, "\x01b\x02ex"), 2)
	for _, n := range []api.Name{"\x01a\x01b\x02ex", "\x01b\x02ex", "\x02ex", "\x01c\x02ex", "\x01a\x01c\x02ex", "", "\x01x", "\x03aex"} {
		m.name(api.QName, api.QWild, n)
		m.name(api.NsName, api.NsWild, n)
	}
	if v, tr, ok := m.index.Name(api.QName, api.QWild, "\x01a\x01b\x02ex"); v != 2 || tr != named(api.QWild, "\x01b\x02ex") || !ok {
		t.Error(v, tr, ok)
	}
	if v, tr, ok := m.index.Name(api.QName, api.QWild, "\x02ex"); v != 0 || tr != (api.Trigger{}) || ok {
		t.Error(v, tr, ok)
	}
}

func TestExactGoesAheadOfWild(t *testing.T) {
	for _, k := range nameKind {
		m := newModel(t)
		m.put(named(k[1], ""), 1)
		m.put(named(k[1], "\x01a"), 2)
		m.put(named(k[0], "\x01b\x01a"), 3)
		m.put(named(k[1], "\x01b\x01a"), 4)
		m.askNames()
		m.del(named(k[0], "\x01b\x01a"))
		m.askNames()
		m.del(named(k[1], "\x01a"))
		m.askNames()
	}
}

func TestNamesAsLongAsTheyCanBe(t *testing.T) {
	m := newModel(t)
	m.put(named(api.QName, long), 1)
	m.put(named(api.QWild, long[2:]), 2)
	m.put(named(api.QWild, long[100:]), 3)
	for i := 0; i <= len(long); i += 2 {
		m.name(api.QName, api.QWild, long[i:])
	}
	m.name(api.QName, api.QWild, "\x01y"+long[2:])
}

func TestOtherArgumentsEnd(t *testing.T) {
	x := index.Of()
	x.Put(named(api.QName, "\x01a"), 1)
	x.Put(named(api.QWild, ""), 2)
	x.Put(net(api.ClientIP, v4, 24), 3)
	for _, kind := range []api.TriggerKind{-1, 0, 1, 2, 3, 4, 5, 6, 7, 256, math.MaxInt, math.MinInt} {
		for _, n := range []api.Name{"", "a", "\x01A", "\x01a", "\xff", long + long, "\x00\x00"} {
			x.Name(kind, kind, n)
			x.Name(kind, api.QWild, n)
			x.Name(api.QName, kind, n)
			x.Addr(kind, string(n))
		}
	}
}

// P17.3

func TestPrefixesOfEachLength(t *testing.T) {
	for _, k := range kinds {
		m := newModel(t)
		for bits := 0; bits <= 32; bits += 3 {
			m.put(net(k, v4, bits), bits)
		}
		for bits := 1; bits <= 128; bits += 5 {
			m.put(net(k, v6, bits), 1000+bits)
		}
		m.askAddrs()
		m.put(net(k, v4, 32), 77)
		m.put(net(k, v6, 128), 78)
		m.put(net(k, v6, 0), 79)
		m.askAddrs()
		m.del(net(k, v4, 30))
		m.del(net(k, v4, 0))
		m.del(net(k, v6, 128))
		m.askAddrs()
	}
}

func TestAnySteps(t *testing.T) {
	m := newModel(t)
	var all []api.Trigger
	for _, n := range names() {
		for _, k := range nameKind {
			if n != "" {
				all = append(all, named(k[0], n))
			}
			all = append(all, named(k[1], n))
		}
	}
	for i := range 17 {
		all = append(all, net(kinds[i%3], v4, 2*i), net(kinds[i%3], v6, 8*i))
	}
	x := uint32(3)
	for i := range 2000 {
		x = x*1664525 + 1013904223
		tr := all[int(x>>10)%len(all)]
		if x>>31 == 0 {
			m.put(tr, i)
		} else {
			m.del(tr)
		}
		m.name(api.QName, api.QWild, tr.Name)
		m.name(api.NsName, api.NsWild, tr.Name)
		m.addr(tr.Kind, v4)
		m.addr(tr.Kind, v6)
	}
	m.askNames()
	m.askAddrs()
}
