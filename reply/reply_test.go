package reply_test

import (
	"math"
	"reflect"
	"slices"
	"strings"
	"testing"

	"bolter/api"
	"bolter/reply"
)

func query() api.Message {
	return api.Message{
		Header:   api.Header{ID: 77, Desired: true},
		Question: api.Question{Name: "\x01a\x01b", Type: api.A},
		Size:     1232,
	}
}

// odd is a query that has what a reply takes nothing of.
func odd() api.Message {
	m := query()
	m.Header = api.Header{ID: 78, Opcode: 5, Authoritative: true, Truncated: true, Code: 9}
	m.Answer, m.Authority, m.Extra = list("q"), list("q", "r"), list("s")
	return m
}

func list(names ...string) []api.Record {
	var out []api.Record
	for _, n := range names {
		out = append(out, api.Record{Name: api.Name([]byte{byte(len(n))}) + api.Name(n), Type: api.A, TTL: 9, Data: "abcd"})
	}
	return out
}

func upstream() api.Message {
	return api.Message{
		Header:    api.Header{ID: 1, Reply: true, Opcode: 3, Authoritative: true, Truncated: true, Code: 4},
		Question:  api.Question{Name: "\x01z", Type: api.TXT},
		Answer:    list("u", "v"),
		Authority: list("w"),
		Extra:     list("x", "y", "z"),
		Size:      999,
	}
}

// same holds messages against each other; parts without records are alike.
func same(a, b api.Message) bool {
	return a.Header == b.Header && a.Question == b.Question && a.Size == b.Size &&
		slices.Equal(a.Answer, b.Answer) && slices.Equal(a.Authority, b.Authority) && slices.Equal(a.Extra, b.Extra)
}

// base is the reply to query() without records.
func base(code int) api.Message {
	m := query()
	m.Header = api.Header{ID: 77, Reply: true, Desired: true, Available: true, Code: code}
	return m
}

// passed is the reply to query() that has all of upstream().
func passed() api.Message {
	m, u := base(4), upstream()
	m.Header.Authoritative = true
	m.Answer, m.Authority, m.Extra = u.Answer, u.Authority, u.Extra
	return m
}

// P21.1

func TestBase(t *testing.T) {
	for code, want := range map[int]int{0: 0, 1: 1, 2: 2, 3: 3, 15: 15, 16: 0, 17: 1, 31: 15, 255: 15, 4096: 0, -1: 15, -16: 0, math.MaxInt: 15, math.MinInt: 0} {
		if got := reply.Base(query(), code); !same(got, base(want)) {
			t.Errorf("Base of the code %d = %+v", code, got)
		}
	}
	want := api.Message{Header: api.Header{ID: 78, Reply: true, Opcode: 5, Available: true, Code: 2}, Question: query().Question, Size: 1232}
	if got := reply.Base(odd(), 2); !same(got, want) {
		t.Errorf("%+v", got)
	}
	if got := reply.Base(api.Message{}, 0); !same(got, api.Message{Header: api.Header{Reply: true, Available: true}}) {
		t.Errorf("%+v", got)
	}
	for size, want := range map[int]int{0: 0, 1: 1, 512: 512, 4095: 4095, 4096: 4096, 4097: 4096, 65535: 4096, math.MaxInt: 4096} {
		q := query()
		q.Size = size
		if got := reply.Base(q, 0); got.Size != want {
			t.Errorf("of the size %d Base has %d", size, got.Size)
		}
	}
}

func TestPassed(t *testing.T) {
	if got := reply.Passed(query(), upstream()); !same(got, passed()) {
		t.Errorf("%+v", got)
	}
	want := passed()
	want.Header = api.Header{ID: 78, Reply: true, Opcode: 5, Authoritative: true, Available: true, Code: 4}
	if got := reply.Passed(odd(), upstream()); !same(got, want) {
		t.Errorf("%+v", got)
	}
	bare := api.Message{Header: api.Header{Code: 19, Available: false, Desired: true}}
	if got := reply.Passed(query(), bare); !same(got, base(3)) {
		t.Errorf("%+v", got)
	}
	q := query()
	q.Size = 5000
	if got := reply.Passed(q, upstream()); got.Size != 4096 {
		t.Errorf("%+v", got)
	}
}

func TestPassedSharesNothing(t *testing.T) {
	u := upstream()
	for _, got := range []api.Message{reply.Passed(query(), u), first(reply.Of(query(), u, api.Action{Kind: api.Pass}, false))} {
		got.Answer[0].TTL, got.Authority[0].TTL, got.Extra[0].TTL = 1, 1, 1
	}
	if !reflect.DeepEqual(u, upstream()) {
		t.Error("upstream's message has changed")
	}
	rs := list("u", "v")
	got, _ := reply.Of(query(), u, api.Action{Kind: api.Local, Records: rs}, false)
	got.Answer[0].TTL = 1
	if !slices.Equal(rs, list("u", "v")) {
		t.Error("the policy's records have changed")
	}
}

func first(m api.Message, _ bool) api.Message { return m }

// P21.2

func TestOf(t *testing.T) {
	cut, nameless := base(0), query()
	cut.Header.Truncated = true
	nameless.Question.Name = "no name"
	answered := func(rs ...api.Record) api.Message {
		m := base(0)
		m.Answer = rs
		return m
	}
	leads := func(to string) api.Message {
		return answered(api.Record{Name: "\x01a\x01b", Type: api.CNAME, TTL: 60, Data: to})
	}
	long := api.Name(strings.Repeat("\x01x", 126))
	mixed := []api.Record{
		{Name: "\x01l", Type: api.A, TTL: 3, Data: "abcd"}, {Name: "\x01l", Type: api.TXT, TTL: 4, Data: "\x00"}, {Name: "\x01m", Type: api.A, TTL: 5, Data: "aaaa"}, {Name: "\x01l", Type: api.AAAA, TTL: 6, Data: "x"},
	}
	for why, c := range map[string]struct {
		a        api.Action
		udp, tcp api.Message
		none     bool
	}{
		"given":               {api.Action{}, passed(), passed(), false},
		"disabled":            {api.Action{Kind: api.Disabled}, passed(), passed(), false},
		"pass":                {api.Action{Kind: api.Pass}, passed(), passed(), false},
		"a kind of none":      {api.Action{Kind: 9}, passed(), passed(), false},
		"a kind ahead of all": {api.Action{Kind: -1}, passed(), passed(), false},
		"drop":                {api.Action{Kind: api.Drop}, api.Message{}, api.Message{}, true},
		"missing":             {api.Action{Kind: api.Missing}, base(3), base(3), false},
		"empty":               {api.Action{Kind: api.Empty}, base(0), base(0), false},
		"tcp":                 {api.Action{Kind: api.Tcp}, cut, passed(), false},
		"rewrite":             {api.Action{Kind: api.Rewrite, Target: "\x01x"}, leads("\x01x"), leads("\x01x"), false},
		"rewrite to the root": {api.Action{Kind: api.Rewrite}, leads(""), leads(""), false},
		"rewrite, wild":       {api.Action{Kind: api.Rewrite, Target: "\x01x", Wild: true}, leads("\x01a\x01b\x01x"), leads("\x01a\x01b\x01x"), false},
		"rewrite, too long":   {api.Action{Kind: api.Rewrite, Target: long, Wild: true}, base(2), base(2), false},
		"rewrite to no name":  {api.Action{Kind: api.Rewrite, Target: "no name"}, base(2), base(2), false},
		"local":               {api.Action{Kind: api.Local, Records: mixed}, answered(api.Record{Name: "\x01a\x01b", Type: api.A, TTL: 3, Data: "abcd"}, api.Record{Name: "\x01a\x01b", Type: api.A, TTL: 5, Data: "aaaa"}), answered(api.Record{Name: "\x01a\x01b", Type: api.A, TTL: 3, Data: "abcd"}, api.Record{Name: "\x01a\x01b", Type: api.A, TTL: 5, Data: "aaaa"}), false},
		"local, no type":      {api.Action{Kind: api.Local, Records: mixed[1:2]}, base(0), base(0), false},
		"local, no records":   {api.Action{Kind: api.Local}, base(0), base(0), false},
	} {
		for tcp, want := range map[bool]api.Message{false: c.udp, true: c.tcp} {
			if got, ok := reply.Of(query(), upstream(), c.a, tcp); !same(got, want) || ok == c.none {
				t.Errorf("%s, tcp %v: %+v, %v", why, tcp, got, ok)
			}
		}
	}
	if got, ok := reply.Of(nameless, upstream(), api.Action{Kind: api.Rewrite, Target: "\x01x", Wild: true}, false); !ok || got.Header.Code != 2 || len(got.Answer) != 0 {
		t.Errorf("%+v, %v", got, ok)
	}
	if mixed[0].Name != "\x01l" || mixed[2].Name != "\x01m" {
		t.Error("the policy's records have changed")
	}
}

func TestOfTheQuestionsType(t *testing.T) {
	rs := []api.Record{{Type: api.TXT, Data: "\x00"}, {Type: 99}, {Type: api.A, Data: "abcd"}}
	for _, typ := range []api.Type{api.TXT, 99, api.A, api.AAAA, 0} {
		q := odd()
		q.Question.Type = typ
		got, ok := reply.Of(q, upstream(), api.Action{Kind: api.Local, Records: rs}, false)
		want := reply.Base(q, 0)
		for _, r := range rs {
			if r.Type == typ {
				r.Name = "\x01a\x01b"
				want.Answer = append(want.Answer, r)
			}
		}
		if !ok || !same(got, want) {
			t.Errorf("type %d: %+v", typ, got)
		}
	}
}

// P21.3

func TestChanges(t *testing.T) {
	for kind, want := range map[api.ActionKind][2]bool{
		api.Given: {false, false}, api.Disabled: {false, false}, api.Pass: {false, false}, api.Drop: {true, true}, api.Missing: {true, true}, api.Empty: {true, true},
		api.Tcp: {true, false}, api.Rewrite: {true, true}, api.Local: {true, true}, 9: {false, false}, -1: {false, false}, math.MaxInt: {false, false},
	} {
		for _, a := range []api.Action{{Kind: kind}, {Kind: kind, Target: "\x01x", Wild: true, Records: list("u")}} {
			if udp, tcp := reply.Changes(a, false), reply.Changes(a, true); udp != want[0] || tcp != want[1] {
				t.Errorf("Changes of the kind %d = %v, by tcp %v", kind, udp, tcp)
			}
		}
	}
}

func TestLimit(t *testing.T) {
	for size, want := range map[int]int{math.MinInt: 512, -1: 512, 0: 512, 1: 512, 511: 512, 512: 512, 513: 513, 1232: 1232, 4095: 4095, 4096: 4096, 4097: 4096, 65535: 4096, math.MaxInt: 4096} {
		q := api.Message{Size: size}
		if got := reply.Limit(q, false); got != want {
			t.Errorf("Limit of the size %d = %d", size, got)
		}
		if got := reply.Limit(q, true); got != 4096 {
			t.Errorf("Limit of the size %d by tcp = %d", size, got)
		}
	}
}

func TestAddresses(t *testing.T) {
	x16 := strings.Repeat("x", 16)
	rs := []api.Record{
		{Type: api.A, Data: "abcd"}, {Type: api.A, Data: "abc"}, {Type: api.A, Data: "abcde"}, {Type: api.A, Data: x16}, {Type: api.A}, {Type: api.CNAME, Data: "abcd"}, {Type: api.TXT, Data: "\x03bcd"},
		{Type: api.AAAA, Data: x16}, {Type: api.AAAA, Data: x16[1:]}, {Type: api.AAAA, Data: x16 + "x"}, {Type: api.AAAA, Data: "abcd"}, {Type: 99, Data: x16}, {Type: api.A, Data: "aaaa"}, {Type: api.A, Data: "abcd"},
	}
	if got := reply.Addresses(rs); !slices.Equal(got, []string{"abcd", x16, "aaaa", "abcd"}) {
		t.Errorf("%q", got)
	}
	if got := reply.Addresses(nil); len(got) != 0 {
		t.Errorf("%q", got)
	}
}

func TestNames(t *testing.T) {
	rs := []api.Record{
		{Type: api.NS, Data: "\x01b"}, {Type: api.NS, Data: "b"}, {Type: api.NS, Data: "\x01B"}, {Type: api.NS, Data: "\x01b\x00"}, {Type: api.NS, Data: ""}, {Type: api.CNAME, Data: "\x01c"}, {Type: 99, Data: "\x01d"},
		{Type: api.SOA, Data: "\x01e"}, {Type: api.NS, Data: "\x01a\x01b"}, {Type: api.NS, Data: "\x01b"}, {Type: api.NS, Data: strings.Repeat("\x01x", 128)},
	}
	if got := reply.Names(rs); !slices.Equal(got, []api.Name{"\x01b", "", "\x01a\x01b", "\x01b"}) {
		t.Errorf("%q", got)
	}
	if got := reply.Names(nil); len(got) != 0 {
		t.Errorf("%q", got)
	}
}
