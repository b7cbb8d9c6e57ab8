package search_test

import (
	"slices"
	"strings"
	"testing"

	"bolter/api"
	"bolter/name"
	"bolter/search"
	"bolter/zone"
)

const origin = "\x03rpz"

var (
	v4 = "\xc0\x00\x02\x09"
	v6 = "\x20\x01" + strings.Repeat("\x00", 13) + "\x05"
)

func parse(text string) api.Name {
	n, ok := name.Parse(text)
	if !ok {
		panic(text)
	}
	return n
}

// rec is a CNAME of a policy zone, by the texts of its name, without the zone's, and its target.
func rec(text, target string) api.Record {
	n, _ := name.Join(parse(text), origin)
	return api.Record{Name: n, Type: api.CNAME, TTL: 5, Data: string(parse(target))}
}

// of is a live policy zone of CNAMEs: name, target, name, target ..
func of(texts ...string) search.Policy {
	p := search.Policy{Origin: origin, Live: true}
	for i := 0; i < len(texts); i += 2 {
		p.Zone = append(p.Zone, rec(texts[i], texts[i+1]))
	}
	slices.SortFunc(p.Zone, zone.Compare)
	return p
}

func named(kind api.TriggerKind, text string) api.Trigger {
	return api.Trigger{Kind: kind, Name: parse(text)}
}

func net(kind api.TriggerKind, a string, bits int) api.Trigger {
	return api.Trigger{Kind: kind, Prefix: api.Prefix{Addr: a, Bits: bits}}
}

func same(a, b api.Action) bool {
	return a.Kind == b.Kind && a.Target == b.Target && a.Wild == b.Wild && slices.Equal(a.Records, b.Records)
}

// P19.1

func TestMatches(t *testing.T) {
	net4, all4, all6 := "\xc0\x00\x02\x00", "\x00\x00\x00\x00", strings.Repeat("\x00", 16)
	for _, c := range []struct {
		t    api.Trigger
		f    search.Facts
		want bool
	}{
		{net(api.ClientIP, net4, 24), search.Facts{Client: v4}, true},
		{net(api.ClientIP, net4, 24), search.Facts{Client: "\xc0\x00\x03\x09"}, false},
		{net(api.ClientIP, net4, 24), search.Facts{Client: ""}, false},
		{net(api.ClientIP, net4, 24), search.Facts{Client: v6}, false},
		{net(api.ClientIP, net4, 24), search.Facts{Answers: []string{v4}, Hosts: []string{v4}}, false},
		{net(api.ClientIP, all4, 0), search.Facts{Client: v4}, true},
		{net(api.ClientIP, all6, 0), search.Facts{Client: v6}, true},
		{net(api.ClientIP, all6, 0), search.Facts{Client: v4}, false},
		{net(api.ClientIP, v4, 24), search.Facts{Client: v4}, false}, // no prefix
		{net(api.ClientIP, "", 0), search.Facts{}, false},
		{net(api.AnswerIP, net4, 24), search.Facts{Answers: []string{v4}}, true},
		{net(api.AnswerIP, net4, 24), search.Facts{Answers: []string{v6, "x", v4}}, true},
		{net(api.AnswerIP, net4, 24), search.Facts{Answers: []string{v6, "x"}}, false},
		{net(api.AnswerIP, net4, 24), search.Facts{}, false},
		{net(api.AnswerIP, all4, 0), search.Facts{}, false},
		{net(api.AnswerIP, net4, 24), search.Facts{Client: v4, Hosts: []string{v4}}, false},
		{net(api.NsIP, net4, 24), search.Facts{Hosts: []string{v4}}, true},
		{net(api.NsIP, net4, 24), search.Facts{Hosts: []string{v6, v4}}, true},
		{net(api.NsIP, net4, 24), search.Facts{Hosts: []string{v6}}, false},
		{net(api.NsIP, net4, 24), search.Facts{Client: v4, Answers: []string{v4}}, false},
		{named(api.QName, "a.x."), search.Facts{Name: parse("a.x.")}, true},
		{named(api.QName, "a.x."), search.Facts{Name: parse("b.a.x.")}, false},
		{named(api.QName, "a.x."), search.Facts{Name: parse("x.")}, false},
		{named(api.QName, "a.x."), search.Facts{Servers: []api.Name{parse("a.x.")}}, false},
		{named(api.QWild, "x."), search.Facts{Name: parse("a.x.")}, true},
		{named(api.QWild, "x."), search.Facts{Name: parse("b.a.x.")}, true},
		{named(api.QWild, "x."), search.Facts{Name: parse("x.")}, false},
		{named(api.QWild, "x."), search.Facts{Name: parse("a.y.")}, false},
		{named(api.QWild, "x."), search.Facts{Name: parse("ax.")}, false},
		{named(api.QWild, "x."), search.Facts{Name: "\x03a\x01x"}, false},
		{named(api.QWild, "x."), search.Facts{Name: "q\x01x"}, false},
		{named(api.QWild, "."), search.Facts{Name: parse("x.")}, true},
		{named(api.QWild, "."), search.Facts{Name: ""}, false},
		{named(api.QWild, "x."), search.Facts{Servers: []api.Name{parse("a.x.")}}, false},
		{named(api.NsName, "a.x."), search.Facts{Servers: []api.Name{parse("a.x.")}}, true},
		{named(api.NsName, "a.x."), search.Facts{Servers: []api.Name{parse("y."), parse("a.x.")}}, true},
		{named(api.NsName, "a.x."), search.Facts{Servers: []api.Name{parse("y."), parse("b.a.x."), parse("x.")}}, false},
		{named(api.NsName, "a.x."), search.Facts{Name: parse("a.x.")}, false},
		{named(api.NsName, "a.x."), search.Facts{}, false},
		{named(api.NsWild, "x."), search.Facts{Servers: []api.Name{parse("y."), parse("a.x.")}}, true},
		{named(api.NsWild, "x."), search.Facts{Servers: []api.Name{parse("y."), parse("x.")}}, false},
		{named(api.NsWild, "."), search.Facts{Servers: []api.Name{parse("y.")}}, true},
		{named(api.NsWild, "."), search.Facts{Servers: []api.Name{""}}, false},
		{named(api.NsWild, "x."), search.Facts{Name: parse("a.x.")}, false},
	} {
		if got := search.Matches(c.t, c.f); got != c.want {
			t.Errorf("Matches(%+v, %+v) = %v", c.t, c.f, got)
		}
	}
}

func TestMatchesOfOtherKinds(t *testing.T) {
	all := search.Facts{Client: v4, Name: parse("a."), Answers: []string{v4}, Servers: []api.Name{parse("a."), parse("b.a.")}, Hosts: []string{v4}}
	for _, kind := range []api.TriggerKind{-1, 7, 8, 1000} {
		if search.Matches(net(kind, v4, 32), all) || search.Matches(named(kind, "a."), all) || search.Matches(api.Trigger{Kind: kind}, search.Facts{}) {
			t.Errorf("the kind %d matches", kind)
		}
	}
}

func TestLess(t *testing.T) {
	// each one is less than all behind it
	rising := []api.Trigger{
		{},
		net(api.NsIP, "\x00\x00\x00\x00", 0),
		net(api.NsIP, "\x00\x00\x00\x01", 0),
		net(api.ClientIP, v6, 128),
		net(api.ClientIP, v4, 32),
		net(api.ClientIP, "\xff", 0),
		{Name: "\x01a"},
		{Name: "\x01a", Prefix: api.Prefix{Addr: "x"}},
		{Name: "\x01b"},
		{Name: "\x01b\x01a"},
		{Name: "\x02a"},
		{Name: "\xff", Prefix: api.Prefix{Addr: ""}},
	}
	for i, a := range rising {
		for k, b := range rising {
			if got := search.Less(a, b); got != (i < k) {
				t.Errorf("Less(%+v, %+v) = %v", a, b, got)
			}
		}
	}
	if a, b := net(api.NsIP, v4, 3), net(api.ClientIP, v4, 9); search.Less(a, b) || search.Less(b, a) {
		t.Error("the kind or the bits count")
	}
}

// P19.2

func TestNode(t *testing.T) {
	local := []api.Record{
		{Name: parse("l.rpz."), Type: api.A, TTL: 9, Data: v4},
		{Name: parse("l.rpz."), Type: api.TXT, TTL: 9, Data: "\x01t"},
	}
	p := of("ex.", ".", "*.ex.", "*.", "24.0.2.0.192.rpz-ip.", "rpz-drop.", "n.rpz-nsdname.", "to.", "w.", "*.to.", "24.9.2.0.192.rpz-ip.", ".", "rpz-nsdname.", ".")
	p.Zone = append(p.Zone, local...)
	p.Zone = append(p.Zone,
		rec("two.", "."), api.Record{Name: parse("two.rpz."), Type: api.A, Data: v4},
		api.Record{Name: origin, Type: api.SOA}, api.Record{Name: parse("ns.rpz."), Type: api.NS, Data: "\x01n"}, api.Record{Name: parse("out."), Type: api.CNAME})
	slices.SortFunc(p.Zone, zone.Compare)
	for text, want := range map[string]struct {
		t api.Trigger
		a api.Action
	}{
		"ex.rpz.":                  {named(api.QName, "ex."), api.Action{Kind: api.Missing}},
		"*.ex.rpz.":                {named(api.QWild, "ex."), api.Action{Kind: api.Empty}},
		"24.0.2.0.192.rpz-ip.rpz.": {net(api.AnswerIP, "\xc0\x00\x02\x00", 24), api.Action{Kind: api.Drop}},
		"n.rpz-nsdname.rpz.":       {named(api.NsName, "n."), api.Action{Kind: api.Rewrite, Target: parse("to.")}},
		"w.rpz.":                   {named(api.QName, "w."), api.Action{Kind: api.Rewrite, Target: parse("to."), Wild: true}},
		"l.rpz.":                   {named(api.QName, "l."), api.Action{Kind: api.Local, Records: local}},
	} {
		for _, live := range []bool{true, false} {
			p.Live = live
			for over, do := range map[api.ActionKind]api.Action{
				api.Given: want.a, api.Rewrite: want.a, api.Local: want.a, 77: want.a, -1: want.a,
				api.Disabled: {Kind: api.Disabled}, api.Pass: {Kind: api.Pass}, api.Drop: {Kind: api.Drop}, api.Tcp: {Kind: api.Tcp},
			} {
				p.Over = over
				if tr, a, ok := search.Node(p, parse(text)); tr != want.t || !same(a, do) || !ok {
					t.Errorf("Node of %q over %d = %+v, %+v, %v", text, over, tr, a, ok)
				}
			}
		}
	}
	for _, over := range []api.ActionKind{api.Given, api.Drop, api.Disabled} {
		p.Over = over
		for _, n := range []api.Name{
			parse("none.rpz."), parse("rpz."), parse("ns.rpz."), parse("two.rpz."), parse("out."), parse("ex."), parse("24.9.2.0.192.rpz-ip.rpz."), parse("rpz-nsdname.rpz."), parse("32.zz.rpz-ip.rpz."),
			"", "no name", "\x02EX" + origin, parse("ex.rpz.x."), parse("x.ex.rpz."),
		} {
			if tr, a, ok := search.Node(p, n); tr != (api.Trigger{}) || !same(a, api.Action{}) || ok {
				t.Errorf("Node of %q = %+v, %+v, %v", n, tr, a, ok)
			}
		}
	}
	p.Over = api.Given
	_, a, _ := search.Node(p, parse("l.rpz."))
	a.Records[0].TTL = 77
	if _, again, _ := search.Node(p, parse("l.rpz.")); !slices.Equal(again.Records, local) {
		t.Error("the policy has changed with its answer")
	}
}

func TestNodeOfTheRoot(t *testing.T) {
	p := search.Policy{Zone: zone.Zone{{Type: api.CNAME}, {Name: parse("ex."), Type: api.CNAME}}}
	if tr, a, ok := search.Node(p, parse("ex.")); tr != named(api.QName, "ex.") || a.Kind != api.Missing || !ok {
		t.Error(tr, a, ok)
	}
	if _, _, ok := search.Node(p, ""); ok {
		t.Error("the origin is a trigger")
	}
}

// P19.3

// wins holds the policy that wins against the one that should: in which zone, by the text of which name of it.
func wins(t *testing.T, why string, ps []search.Policy, f search.Facts, k int, text string) {
	t.Helper()
	got, ok := search.Of(ps, f)
	if text == "" {
		if ok || got.Zone != 0 || got.Trigger != (api.Trigger{}) || !same(got.Action, api.Action{}) {
			t.Errorf("%s: %+v, %v", why, got, ok)
		}
		return
	}
	n, _ := name.Join(parse(text), ps[k].Origin)
	tr, a, is := search.Node(ps[k], n)
	if !is {
		t.Fatalf("%s: %q is no policy", why, text)
	}
	if !ok || got.Zone != k || got.Trigger != tr || !same(got.Action, a) {
		t.Errorf("%s: %+v, %v, want %d, %+v, %+v", why, got, ok, k, tr, a)
	}
}

func TestOfNothing(t *testing.T) {
	f := search.Facts{Client: v4, Name: parse("a.ex."), Answers: []string{v4}, Servers: []api.Name{parse("n.")}, Hosts: []string{v4}}
	wins(t, "no policies", nil, f, 0, "")
	wins(t, "no records", []search.Policy{{Origin: origin, Live: true}}, f, 0, "")
	wins(t, "none matches", []search.Policy{of("b.ex.", ".", "*.b.", ".", "32.9.2.0.193.rpz-ip.", ".")}, f, 0, "")
	wins(t, "no facts", []search.Policy{of("b.ex.", ".", "*.b.", ".", "0.0.0.0.0.rpz-ip.", ".", "0.0.0.0.0.rpz-client-ip.", ".")}, search.Facts{}, 0, "")
}

func TestOfTheExample(t *testing.T) {
	got, ok := search.Of([]search.Policy{of("ex.", ".")}, search.Facts{Name: parse("ex.")})
	if !ok || got.Zone != 0 || got.Trigger != named(api.QName, "ex.") || !same(got.Action, api.Action{Kind: api.Missing}) {
		t.Errorf("%+v, %v", got, ok)
	}
}

func TestSteps(t *testing.T) {
	f := search.Facts{Client: v4, Name: parse("a.b.ex."), Answers: []string{v4}, Servers: []api.Name{parse("n.s."), parse("m.s.")}, Hosts: []string{v4}}
	// each one goes ahead of all behind it
	order := []string{
		"32.9.2.0.192.rpz-client-ip.", "24.0.2.0.192.rpz-client-ip.", "0.0.0.0.0.rpz-client-ip.",
		"a.b.ex.", "*.b.ex.", "*.ex.", "*.",
		"32.9.2.0.192.rpz-ip.", "8.0.0.0.192.rpz-ip.", "0.0.0.0.0.rpz-ip.",
		"m.s.rpz-nsdname.", "n.s.rpz-nsdname.", "*.s.rpz-nsdname.", "*.rpz-nsdname.",
		"32.9.2.0.192.rpz-nsip.", "31.8.2.0.192.rpz-nsip.", "0.0.0.0.0.rpz-nsip.",
	}
	for i := range order {
		var texts []string
		for _, text := range order[i:] {
			texts = append(texts, text, "t"+text)
		}
		p := of(texts...)
		wins(t, "in order", []search.Policy{p}, f, 0, order[i])
		slices.Reverse(p.Zone) // no order of its records counts
		wins(t, "in another order", []search.Policy{p}, f, 0, order[i])
	}
	wins(t, "the root", []search.Policy{of("*.", ".", "*.ex.", ".")}, search.Facts{Name: ""}, 0, "")
}

func TestTriggersOfOneRank(t *testing.T) {
	f := search.Facts{
		Client:  v6,
		Answers: []string{v4, "\xc0\x00\x02\x05", "\x20\x01\x00\x00"},
		Servers: []api.Name{parse("b.x."), parse("a.y."), parse("c.a.z.")},
		Hosts:   []string{"\x20\x02\x00\x00", v4, v6},
	}
	wins(t, "addresses", []search.Policy{of("32.9.2.0.192.rpz-ip.", "x.", "32.5.2.0.192.rpz-ip.", "y.")}, f, 0, "32.5.2.0.192.rpz-ip.")
	wins(t, "addresses, the other way", []search.Policy{of("32.9.2.0.192.rpz-ip.", "x.", "32.5.2.0.192.rpz-ip.", "y.", "32.0.0.1.32.rpz-ip.", "z.")}, f, 0, "32.0.0.1.32.rpz-ip.")
	wins(t, "names", []search.Policy{of("b.x.rpz-nsdname.", "x.", "a.y.rpz-nsdname.", "y.")}, f, 0, "a.y.rpz-nsdname.")
	wins(t, "wild names", []search.Policy{of("*.x.rpz-nsdname.", "x.", "*.y.rpz-nsdname.", "y.", "*.z.rpz-nsdname.", "z.")}, f, 0, "*.x.rpz-nsdname.")
	wins(t, "a longer wild name", []search.Policy{of("*.x.rpz-nsdname.", "x.", "*.a.z.rpz-nsdname.", "y.")}, f, 0, "*.a.z.rpz-nsdname.")
	wins(t, "an exact name ahead of a longer wild one", []search.Policy{of("b.x.rpz-nsdname.", "x.", "*.a.z.rpz-nsdname.", "y.")}, f, 0, "b.x.rpz-nsdname.")
	wins(t, "addresses of four bytes, and of sixteen", []search.Policy{of("16.0.0.2.32.rpz-nsip.", "x.", "16.zz.2001.rpz-nsip.", "y.")}, f, 0, "16.zz.2001.rpz-nsip.")
	wins(t, "a longer prefix of sixteen", []search.Policy{of("32.0.0.2.32.rpz-nsip.", "x.", "33.zz.2001.rpz-nsip.", "y.")}, f, 0, "33.zz.2001.rpz-nsip.")
}

func TestZones(t *testing.T) {
	f := search.Facts{Client: v4, Name: parse("a.ex.")}
	none, wild, exact := of("b.ex.", "."), of("*.ex.", "w."), of("a.ex.", "e.", "32.9.2.0.192.rpz-client-ip.", "c.")
	wins(t, "the first zone", []search.Policy{wild, exact}, f, 0, "*.ex.")
	wins(t, "the first zone, turned", []search.Policy{exact, wild}, f, 0, "32.9.2.0.192.rpz-client-ip.")
	wins(t, "the second zone", []search.Policy{none, wild, exact}, f, 1, "*.ex.")
	wins(t, "the same zone twice", []search.Policy{none, exact, exact}, f, 1, "32.9.2.0.192.rpz-client-ip.")
	asleep := exact
	asleep.Live = false
	wins(t, "a zone that is not live", []search.Policy{asleep, none, wild}, f, 2, "*.ex.")
	wins(t, "no zone that is live", []search.Policy{asleep, asleep}, f, 0, "")
	other := search.Policy{Origin: parse("o.x."), Live: true, Zone: zone.Zone{{Name: parse("a.ex.o.x."), Type: api.CNAME}, {Name: parse("a.ex.rpz."), Type: api.CNAME}}}
	wins(t, "another origin", []search.Policy{none, other}, f, 1, "a.ex.")
	many := append(slices.Repeat([]search.Policy{none}, 40), wild)
	wins(t, "many zones", many, f, 40, "*.ex.")
}

func TestWhatZonesAreTold(t *testing.T) {
	f := search.Facts{Name: parse("a.ex.")}
	off, pass, drop, given := of("a.ex.", "."), of("a.ex.", "."), of("a.ex.", "."), of("*.ex.", "w.")
	off.Over, pass.Over, drop.Over = api.Disabled, api.Pass, api.Drop
	wins(t, "disabled", []search.Policy{off, given}, f, 1, "*.ex.")
	wins(t, "all disabled", []search.Policy{off, off}, f, 0, "")
	wins(t, "pass", []search.Policy{off, pass, given}, f, 1, "a.ex.")
	wins(t, "drop", []search.Policy{drop, pass}, f, 0, "a.ex.")
	if got, _ := search.Of([]search.Policy{drop}, f); !same(got.Action, api.Action{Kind: api.Drop}) {
		t.Errorf("%+v", got)
	}
}

func TestRecordsThatAreNoPolicies(t *testing.T) {
	f := search.Facts{Name: parse("a.ex.")}
	p := of("*.ex.", "w.")
	p.Zone = append(p.Zone, rec("a.ex.", "."), api.Record{Name: parse("a.ex.rpz."), Type: api.A, Data: v4}, api.Record{Name: origin, Type: api.SOA})
	slices.SortFunc(p.Zone, zone.Compare)
	wins(t, "a CNAME and more", []search.Policy{p}, f, 0, "*.ex.")
	local := search.Policy{Origin: origin, Live: true, Zone: zone.Zone{
		{Name: parse("a.ex.rpz."), Type: api.A, TTL: 1, Data: v4}, {Name: parse("a.ex.rpz."), Type: api.TXT, TTL: 2, Data: "\x00"}, {Name: parse("b.ex.rpz."), Type: api.A, TTL: 1, Data: v4}}}
	got, ok := search.Of([]search.Policy{local}, f)
	if !ok || got.Trigger != named(api.QName, "a.ex.") || !same(got.Action, api.Action{Kind: api.Local, Records: local.Zone[:2]}) {
		t.Errorf("%+v, %v", got, ok)
	}
	got.Action.Records[0].TTL = 99
	if local.Zone[0].TTL != 1 {
		t.Error("the policy has changed with its answer")
	}
}
