package action_test

import (
	"math"
	"slices"
	"strings"
	"testing"

	"bolter/action"
	"bolter/api"
)

var (
	a   = api.Record{Name: "\x01x", Type: api.A, TTL: 5, Data: "abcd"}
	txt = api.Record{Name: "\x01x", Type: api.TXT, TTL: 6, Data: "\x01t"}
	odd = api.Record{Name: "\x01x", Type: 99, Data: "q"}
)

func cname(target string) api.Record {
	return api.Record{Name: "\x01x", Type: api.CNAME, TTL: 7, Data: target}
}

func same(x, y api.Action) bool {
	return x.Kind == y.Kind && x.Target == y.Target && x.Wild == y.Wild && slices.Equal(x.Records, y.Records)
}

// P14.1

func TestOfTargets(t *testing.T) {
	for target, want := range map[string]api.Action{
		"":                               {Kind: api.Missing},
		"\x01*":                          {Kind: api.Empty},
		"\x0crpz-passthru":               {Kind: api.Pass},
		"\x08rpz-drop":                   {Kind: api.Drop},
		"\x0crpz-tcp-only":               {Kind: api.Tcp},
		"\x01*\x01x":                     {Kind: api.Rewrite, Target: "\x01x", Wild: true},
		"\x01*\x01a\x02bc":               {Kind: api.Rewrite, Target: "\x01a\x02bc", Wild: true},
		"\x01*\x01*":                     {Kind: api.Rewrite, Target: "\x01*", Wild: true},
		"\x01*\x08rpz-drop":              {Kind: api.Rewrite, Target: "\x08rpz-drop", Wild: true},
		"\x01x":                          {Kind: api.Rewrite, Target: "\x01x"},
		"\x01a\x01*":                     {Kind: api.Rewrite, Target: "\x01a\x01*"},
		"\x02**\x01x":                    {Kind: api.Rewrite, Target: "\x02**\x01x"},
		"\x02**":                         {Kind: api.Rewrite, Target: "\x02**"},
		"\x08rpz-drop\x01x":              {Kind: api.Rewrite, Target: "\x08rpz-drop\x01x"},
		"\x01x\x08rpz-drop":              {Kind: api.Rewrite, Target: "\x01x\x08rpz-drop"},
		"\x09rpz-dropx":                  {Kind: api.Rewrite, Target: "\x09rpz-dropx"},
		"\x0crpz-passthrv":               {Kind: api.Rewrite, Target: "\x0crpz-passthrv"},
		strings.Repeat("\x01*", 127):     {Kind: api.Rewrite, Target: api.Name(strings.Repeat("\x01*", 126)), Wild: true},
		"\x0brpz-nsdname":                {Kind: api.Rewrite, Target: "\x0brpz-nsdname"},
		"\x0crpz-passthru\x0crpz-nsdnme": {Kind: api.Rewrite, Target: "\x0crpz-passthru\x0crpz-nsdnme"},
	} {
		if got, ok := action.Of([]api.Record{cname(target)}); !same(got, want) || !ok {
			t.Errorf("Of a CNAME to %q = %+v, %v", target, got, ok)
		}
	}
}

func TestOfTargetsThatAreNoNames(t *testing.T) {
	// They are other targets, which no name can be rewritten to.
	for _, target := range []string{"a", "\x01A", "\x01*\x00", "\x01*\x01", "\x01*x", "\x00"} {
		got, ok := action.Of([]api.Record{cname(target)})
		if got.Kind != api.Rewrite || !ok {
			t.Errorf("Of a CNAME to %q = %+v, %v", target, got, ok)
		}
		if goal, ok := action.Goal(got, "\x01a"); goal != "" || ok {
			t.Errorf("its goal is %q", goal)
		}
	}
}

func TestOfRecords(t *testing.T) {
	for _, rs := range [][]api.Record{{a}, {txt}, {a, txt}, {txt, a}, {odd, a, odd}, {{}}, {{Type: api.OPT}}, slices.Repeat([]api.Record{txt}, 300)} {
		if got, ok := action.Of(rs); !same(got, api.Action{Kind: api.Local, Records: rs}) || !ok {
			t.Errorf("Of(%+v) = %+v, %v", rs, got, ok)
		}
	}
}

func TestOfNone(t *testing.T) {
	soa, ns := api.Record{Type: api.SOA}, api.Record{Type: api.NS}
	for _, rs := range [][]api.Record{
		nil, {}, {soa}, {ns}, {a, soa}, {soa, a}, {a, ns}, {ns, a}, {a, txt, ns}, {a, txt, soa}, {soa, ns},
		{cname(""), a}, {a, cname("")}, {cname("\x01x"), cname("\x01x")}, {cname("\x01x"), cname("\x01y")}, {a, txt, cname("\x01x")}, {cname("\x01x"), soa}, {ns, cname("\x01x")}, {a, cname("\x01x"), txt},
	} {
		if got, ok := action.Of(rs); !same(got, api.Action{}) || ok {
			t.Errorf("Of(%+v) = %+v, %v", rs, got, ok)
		}
	}
}

// P14.2

// actions are some of each kind.
func actions() []api.Action {
	out := []api.Action{{Kind: api.Rewrite, Target: "\x01x"}, {Kind: api.Rewrite, Target: "\x01x", Wild: true}, {Kind: api.Local, Records: []api.Record{a, txt}}}
	for kind := range api.Local + 1 {
		out = append(out, api.Action{Kind: kind})
	}
	return out
}

func TestOver(t *testing.T) {
	for _, x := range actions() {
		for _, kind := range []api.ActionKind{api.Given, api.Rewrite, api.Local, -1, 9, 10, 1000, math.MaxInt, math.MinInt} {
			if got := action.Over(x, kind); !same(got, x) {
				t.Errorf("Over(%+v, %d) = %+v", x, kind, got)
			}
		}
		for _, kind := range []api.ActionKind{api.Disabled, api.Pass, api.Drop, api.Missing, api.Empty, api.Tcp} {
			if got := action.Over(x, kind); !same(got, api.Action{Kind: kind}) {
				t.Errorf("Over(%+v, %d) = %+v", x, kind, got)
			}
		}
	}
}

func TestGoal(t *testing.T) {
	long := api.Name(strings.Repeat("\x01x", 126))
	rewrite := func(target api.Name, wild bool) api.Action {
		return api.Action{Kind: api.Rewrite, Target: target, Wild: wild}
	}
	for _, c := range []struct {
		a       api.Action
		n, want api.Name
		ok      bool
	}{
		{rewrite("\x01x", false), "\x01a", "\x01x", true},
		{rewrite("", false), "\x01a", "", true},
		{rewrite("\x01x", false), "", "\x01x", true},
		{rewrite("\x01x", false), "no name", "\x01x", true},
		{rewrite(long+"\x01x", false), long, long + "\x01x", true},
		{rewrite("\x01x", true), "\x01a", "\x01a\x01x", true},
		{rewrite("\x01x\x01y", true), "\x01a\x01b", "\x01a\x01b\x01x\x01y", true},
		{rewrite("", true), "\x01a", "\x01a", true},
		{rewrite("\x01x", true), "", "\x01x", true},
		{rewrite("\x01x", true), long, long + "\x01x", true},
		{rewrite("\x02xy", true), long, "", false},
		{rewrite("\x01x", true), "no name", "", false},
		{rewrite("\x01x", true), "\x01A", "", false},
		{rewrite("x", false), "\x01a", "", false},
		{rewrite("\x01X", false), "\x01a", "", false},
		{rewrite("\x01X", true), "\x01a", "", false},
		{rewrite(long+long, false), "\x01a", "", false},
	} {
		if got, ok := action.Goal(c.a, c.n); got != c.want || ok != c.ok {
			t.Errorf("Goal(%+v, %q) = %q, %v", c.a, c.n, got, ok)
		}
	}
	for _, kind := range []api.ActionKind{api.Given, api.Disabled, api.Pass, api.Drop, api.Missing, api.Empty, api.Tcp, api.Local, 9, -1} {
		for _, wild := range []bool{false, true} {
			if got, ok := action.Goal(api.Action{Kind: kind, Target: "\x01x", Wild: wild}, "\x01a"); got != "" || ok {
				t.Errorf("Goal of the kind %d = %q, %v", kind, got, ok)
			}
		}
	}
}

func TestSame(t *testing.T) {
	full := func() api.Action {
		return api.Action{Kind: api.Local, Target: "\x01x", Wild: true, Records: []api.Record{a, txt}}
	}
	if !action.Same(full(), full()) || !action.Same(api.Action{}, api.Action{}) || !action.Same(api.Action{Records: []api.Record{}}, api.Action{}) {
		t.Error("an action is not the same as itself")
	}
	for why, change := range map[string]func(x *api.Action){
		"kind":              func(x *api.Action) { x.Kind = api.Rewrite },
		"target":            func(x *api.Action) { x.Target = "" },
		"wild":              func(x *api.Action) { x.Wild = false },
		"no records":        func(x *api.Action) { x.Records = nil },
		"a record less":     func(x *api.Action) { x.Records = x.Records[:1] },
		"a record more":     func(x *api.Action) { x.Records = append(x.Records, a) },
		"another order":     func(x *api.Action) { x.Records = []api.Record{txt, a} },
		"another TTL":       func(x *api.Action) { x.Records[1].TTL++ },
		"another name":      func(x *api.Action) { x.Records[0].Name = "" },
		"another type":      func(x *api.Action) { x.Records[0].Type = 0 },
		"other data":        func(x *api.Action) { x.Records[0].Data = "" },
		"a record, changed": func(x *api.Action) { x.Records[0] = odd },
	} {
		x := full()
		change(&x)
		if action.Same(full(), x) || action.Same(x, full()) {
			t.Errorf("%s: they are the same", why)
		}
	}
}

func TestRecordsAreNotShared(t *testing.T) {
	rs := []api.Record{a, txt}
	first, _ := action.Of(rs)
	second := action.Over(api.Action{Kind: api.Local, Records: rs}, api.Given)
	first.Records[0], second.Records[0] = odd, odd
	if rs[0] != a {
		t.Error("the records have changed")
	}
	rs[1] = odd
	if first.Records[1] != txt || second.Records[1] != txt {
		t.Error("the actions have changed")
	}
}
