package engine_test

import (
	"math"
	"slices"
	"strings"
	"testing"

	"bolter/api"
	"bolter/engine"
	"bolter/name"
	"bolter/owner"
	"bolter/search"
	"bolter/zone"
)

var (
	v4 = "\xc0\x00\x02\x09"
	v6 = "\x20\x01" + strings.Repeat("\x00", 13) + "\x05"
)

func parse(text string) api.Name {
	n, ok := name.Parse(text)
	if !ok {
		panic(text)
	}
	return n
}

// of is a zone of CNAMEs: name, target, name, target ..
func of(origin api.Name, texts ...string) zone.Zone {
	var z zone.Zone
	for i := 0; i < len(texts); i += 2 {
		n, _ := name.Join(parse(texts[i]), origin)
		z = append(z, api.Record{Name: n, Type: api.CNAME, TTL: 5, Data: string(parse(texts[i+1]))})
	}
	slices.SortFunc(z, zone.Compare)
	return slices.Compact(z)
}

func samePolicy(a, b search.Policy) bool {
	return a.Origin == b.Origin && slices.Equal(a.Zone, b.Zone) && a.Live == b.Live && a.Over == b.Over
}

func sameVerdict(a, b search.Verdict) bool {
	x, y := a.Action, b.Action
	return a.Zone == b.Zone && a.Trigger == b.Trigger && x.Kind == y.Kind && x.Target == y.Target && x.Wild == y.Wild && slices.Equal(x.Records, y.Records)
}

// origins are so many names.
func origins(many int) []api.Name {
	var out []api.Name
	for i := range many {
		out = append(out, api.Name([]byte{2, byte('a' + i/26), byte('a' + i%26)}))
	}
	return out
}

// P20.1

func TestOf(t *testing.T) {
	for many, want := range map[int]int{0: 0, 1: 1, 5: 5, 31: 31, 32: 32, 33: 32, 100: 32} {
		overs := []api.ActionKind{api.Drop, api.Given, api.Disabled, 99}
		x := engine.Of(origins(many), overs)
		if x.Len() != want || len(x.Policies()) != want || len(x.Sizes()) != want {
			t.Errorf("of %d origins there are %d, %d, %d", many, x.Len(), len(x.Policies()), len(x.Sizes()))
		}
		for k, p := range x.Policies() {
			over := api.Given
			if k < len(overs) {
				over = overs[k]
			}
			if !samePolicy(p, search.Policy{Origin: origins(many)[k], Over: over}) {
				t.Errorf("policy %d is %+v", k, p)
			}
		}
		for k, n := range x.Sizes() {
			if n != 0 {
				t.Errorf("policy %d has %d triggers", k, n)
			}
		}
		if v, ok := x.Decide(search.Facts{Client: v4, Name: parse("a.")}); ok || !sameVerdict(v, search.Verdict{}) {
			t.Errorf("%+v", v)
		}
	}
	if x := engine.Of(nil, []api.ActionKind{api.Drop}); x.Len() != 0 || len(x.Policies()) != 0 || len(x.Sizes()) != 0 {
		t.Error("there are policies without origins")
	}
}

func TestLiveAndSet(t *testing.T) {
	os := origins(3)
	x := engine.Of(os, []api.ActionKind{api.Given, api.Drop})
	z := of(os[1], "ex.", ".", "*.ex.", "*.")
	if !x.Set(1, z) || !x.Live(2, true) {
		t.Error("there are no policies 1 and 2")
	}
	want := []search.Policy{{Origin: os[0]}, {Origin: os[1], Zone: z, Over: api.Drop}, {Origin: os[2], Live: true}}
	check := func() {
		t.Helper()
		if got := x.Policies(); !slices.EqualFunc(got, want, samePolicy) {
			t.Errorf("%+v, want %+v", got, want)
		}
	}
	check()
	for _, k := range []int{-1, 3, 4, 100, math.MaxInt, math.MinInt} {
		if x.Set(k, z) || x.Live(k, true) || x.Live(k, false) {
			t.Errorf("there is a policy %d", k)
		}
		check()
	}
	x.Live(2, false)
	x.Live(1, true)
	x.Live(1, true)
	want[1].Live, want[2].Live = true, false
	check()
	x.Set(1, nil)
	x.Set(0, of(os[0], "a.", "."))
	want[1].Zone, want[0].Zone = nil, of(os[0], "a.", ".")
	check()
}

func TestNothingIsShared(t *testing.T) {
	os, overs := origins(2), []api.ActionKind{api.Given, api.Given}
	x := engine.Of(os, overs)
	os[0], overs[0] = "\x01q", api.Drop
	z := of("\x02aa", "ex.", ".")
	z = append(zone.Zone{{Name: parse("l.aa."), Type: api.A, TTL: 7, Data: v4}}, z...)
	x.Set(0, z)
	x.Live(0, true)
	want := slices.Clone(z)
	z[0], z[1] = api.Record{}, api.Record{}
	x.Policies()[0].Zone[0] = api.Record{}
	x.Policies()[0].Live = false
	v, ok := x.Decide(search.Facts{Name: parse("l.")})
	if !ok || len(v.Action.Records) != 1 {
		t.Fatalf("%+v", v)
	}
	v.Action.Records[0] = api.Record{}
	if got := x.Policies()[0]; !samePolicy(got, search.Policy{Origin: "\x02aa", Zone: want, Live: true}) {
		t.Errorf("%+v", got)
	}
	if v, _ := x.Decide(search.Facts{Name: parse("l.")}); len(v.Action.Records) != 1 || v.Action.Records[0] != want[0] {
		t.Errorf("%+v", v)
	}
}

// P20.2

// agrees holds what an engine decides against what a search of its policies finds.
func agrees(t *testing.T, x *engine.Engine, f search.Facts) bool {
	t.Helper()
	got, ok := x.Decide(f)
	want, found := search.Of(x.Policies(), f)
	if ok != found || !sameVerdict(got, want) {
		t.Fatalf("Decide(%+v) = %+v, %v, want %+v, %v", f, got, ok, want, found)
	}
	return ok
}

// sizesAgree holds the sizes against the triggers of the policies' nodes.
func sizesAgree(t *testing.T, x *engine.Engine) {
	t.Helper()
	var want []int
	for _, p := range x.Policies() {
		ts := map[api.Trigger]bool{}
		for _, r := range p.Zone {
			if tr, a, ok := search.Node(p, r.Name); ok && a.Kind != api.Disabled {
				ts[tr] = true
			}
		}
		want = append(want, len(ts))
	}
	if got := x.Sizes(); !slices.Equal(got, want) {
		t.Fatalf("Sizes = %d, want %d", got, want)
	}
}

func TestSizes(t *testing.T) {
	os := origins(3)
	x := engine.Of(os, []api.ActionKind{api.Given, api.Disabled, api.Drop})
	for k, o := range os {
		z := of(o, "ex.", ".", "*.ex.", "*.", "24.0.2.0.192.rpz-ip.", ".", "24.9.2.0.192.rpz-ip.", ".", "two.", "a.", "two.", "b.", "*.rpz-nsdname.", ".")
		z = append(z, api.Record{Name: "\x01l" + o, Type: api.A, Data: v4}, api.Record{Name: "\x01l" + o, Type: api.TXT, Data: "\x00"}, api.Record{Name: o, Type: api.SOA}, api.Record{Name: "\x03out", Type: api.A})
		slices.SortFunc(z, zone.Compare)
		x.Set(k, z)
	}
	if got := x.Sizes(); !slices.Equal(got, []int{5, 0, 5}) {
		t.Errorf("%d", got)
	}
	sizesAgree(t, x)
	x.Set(0, of(os[0], "ex.", "."))
	x.Set(2, nil)
	if got := x.Sizes(); !slices.Equal(got, []int{1, 0, 0}) {
		t.Errorf("%d", got)
	}
}

func TestDecideBySteps(t *testing.T) {
	f := search.Facts{Client: v4, Name: parse("a.b.ex."), Answers: []string{v6, v4}, Servers: []api.Name{parse("n.s."), parse("m.s.")}, Hosts: []string{v4, v6}}
	order := []string{
		"32.9.2.0.192.rpz-client-ip.", "24.0.2.0.192.rpz-client-ip.", "0.0.0.0.0.rpz-client-ip.",
		"a.b.ex.", "*.b.ex.", "*.ex.", "*.",
		"64.zz.2001.rpz-ip.", "32.9.2.0.192.rpz-ip.", "8.0.0.0.192.rpz-ip.", "0.0.0.0.0.rpz-ip.",
		"m.s.rpz-nsdname.", "n.s.rpz-nsdname.", "*.s.rpz-nsdname.", "*.rpz-nsdname.",
		"128.5.zz.2001.rpz-nsip.", "31.8.2.0.192.rpz-nsip.", "0.0.0.0.0.rpz-nsip.",
	}
	for i := range order {
		x := engine.Of(origins(1), nil)
		var texts []string
		for _, text := range order[i:] {
			texts = append(texts, text, "t"+text)
		}
		x.Set(0, of(origins(1)[0], texts...))
		if agrees(t, x, f) {
			t.Error("a zone that is not live decides")
		}
		x.Live(0, true)
		if v, ok := x.Decide(f); !ok || v.Action.Target != parse("t"+order[i]) {
			t.Errorf("%q does not win, but %+v", order[i], v)
		}
		agrees(t, x, f)
	}
}

func TestDecideOfOddFacts(t *testing.T) {
	x := engine.Of(origins(1), nil)
	x.Set(0, of(origins(1)[0], "*.", ".", "*.rpz-nsdname.", ".", "a.", ".", "0.zz.rpz-ip.", ".", "0.0.0.0.0.rpz-nsip.", ".", "0.0.0.0.0.rpz-client-ip.", "."))
	x.Live(0, true)
	for _, n := range []api.Name{"", "a", "\x01A", "\x01a\x00", "\x05a", "\x01\x01a", "\xff", api.Name(strings.Repeat("\x01x", 200)), "q\x01a"} {
		agrees(t, x, search.Facts{Name: n})
		agrees(t, x, search.Facts{Servers: []api.Name{n}})
		agrees(t, x, search.Facts{Servers: []api.Name{n, "\x01b"}})
		agrees(t, x, search.Facts{Client: string(n), Answers: []string{string(n), v4}, Hosts: []string{v6, string(n)}})
	}
}

func TestDecideOfAnOddOrigin(t *testing.T) {
	x := engine.Of([]api.Name{"no name", "", "\x01A"}, nil)
	z := zone.Zone{{Name: "\x01a", Type: api.CNAME}, {Name: "\x01ano name", Type: api.CNAME}}
	for k := range 3 {
		x.Set(k, z)
		x.Live(k, true)
	}
	agrees(t, x, search.Facts{Name: "\x01a"})
	sizesAgree(t, x)
}

// draws are numbers, one after the other, the same ones each time.
type draws uint32

func (d *draws) below(n int) int {
	*d = *d*1664525 + 1013904223
	return int(*d>>8) % n
}

// name is one of a few.
func (d *draws) name() api.Name {
	var ls []string
	for range d.below(4) {
		ls = append(ls, []string{"a", "b", "c"}[d.below(3)])
	}
	n, _ := name.Make(ls...)
	return n
}

func (d *draws) addr() string {
	if d.below(2) == 0 {
		return string([]byte{192, 0, 2, byte(d.below(8))})
	}
	return "\x20\x01" + strings.Repeat("\x00", 13) + string([]byte{byte(d.below(8))})
}

func (d *draws) trigger() api.Trigger {
	kind := api.TriggerKind(d.below(7))
	tr := api.Trigger{Kind: kind}
	switch kind {
	case api.ClientIP, api.AnswerIP, api.NsIP:
		a := d.addr()
		bits := 8*len(a) - d.below(4)
		if d.below(8) == 0 {
			bits = 0
		}
		masked := []byte(a)
		for i := bits; i < 8*len(a); i++ {
			masked[i/8] &^= 128 >> (i % 8)
		}
		tr.Prefix = api.Prefix{Addr: string(masked), Bits: bits}
	default:
		tr.Name = d.name()
	}
	return tr
}

func (d *draws) zone(origin api.Name) zone.Zone {
	z := zone.Zone{{Name: origin, Type: api.SOA, Data: "s"}}
	for range d.below(14) {
		n, ok := owner.Encode(d.trigger())
		if !ok {
			continue
		}
		r := api.Record{Name: n + origin, Type: api.CNAME, TTL: uint32(d.below(9))}
		switch d.below(5) {
		case 0:
			r.Type, r.Data = api.A, v4
		case 1:
			r.Data = string(parse("rpz-drop."))
		case 2:
			r.Data = string(parse("*.to."))
		}
		z = append(z, r)
	}
	slices.SortFunc(z, zone.Compare)
	return slices.Compact(z)
}

func (d *draws) facts() search.Facts {
	f := search.Facts{Client: d.addr(), Name: d.name()}
	for range d.below(4) {
		f.Answers = append(f.Answers, d.addr())
	}
	for range d.below(4) {
		f.Servers = append(f.Servers, d.name())
	}
	for range d.below(3) {
		f.Hosts = append(f.Hosts, d.addr())
	}
	return f
}

func TestDecideAsTheSearch(t *testing.T) {
	d := draws(1)
	decided := 0
	for range 150 {
		os := origins(1 + d.below(4))
		var overs []api.ActionKind
		for range d.below(4) {
			overs = append(overs, api.ActionKind(d.below(9)))
		}
		x := engine.Of(os, overs)
		for range 20 {
			k := d.below(len(os))
			x.Set(k, d.zone(os[k]))
			x.Live(d.below(len(os)), d.below(3) > 0)
			sizesAgree(t, x)
			for range 6 {
				if agrees(t, x, d.facts()) {
					decided++
				}
			}
		}
	}
	if decided < 3000 {
		t.Errorf("only %d times there was a policy", decided)
	}
}
