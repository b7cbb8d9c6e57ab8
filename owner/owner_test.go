package owner_test

import (
	"math"
	"slices"
	"strconv"
	"strings"
	"testing"

	"bolter/api"
	"bolter/name"
	"bolter/owner"
	"bolter/prefix"
)

// parse is the name of a text.
func parse(t *testing.T, text string) api.Name {
	t.Helper()
	n, ok := name.Parse(text)
	if !ok {
		t.Fatalf("%q is no text of a name", text)
	}
	return n
}

// v6 is the address of eight words.
func v6(ws ...uint16) string {
	var out []byte
	for _, w := range ws {
		out = append(out, byte(w>>8), byte(w))
	}
	return string(out)
}

// prefixes are prefixes, and their labels.
func prefixes() []struct {
	p    api.Prefix
	text string
} {
	return []struct {
		p    api.Prefix
		text string
	}{
		{api.Prefix{Addr: "\xc0\x00\x02\x00", Bits: 24}, "24.0.2.0.192"},
		{api.Prefix{Addr: "\xc0\x00\x02\x09", Bits: 32}, "32.9.2.0.192"},
		{api.Prefix{Addr: "\x00\x00\x00\x00", Bits: 0}, "0.0.0.0.0"},
		{api.Prefix{Addr: "\x00\x00\x00\x00", Bits: 1}, "1.0.0.0.0"},
		{api.Prefix{Addr: "\x0a\x64\xff\x80", Bits: 30}, "30.128.255.100.10"},
		{api.Prefix{Addr: v6(0x2001, 1, 0, 0, 0, 0, 0, 0), Bits: 32}, "32.zz.1.2001"},
		{api.Prefix{Addr: v6(0, 0, 0, 0, 0, 0, 0, 0), Bits: 0}, "0.zz"},
		{api.Prefix{Addr: v6(0, 0, 0, 0, 0, 0, 0, 0), Bits: 128}, "128.zz"},
		{api.Prefix{Addr: v6(0, 0, 0, 0, 0, 0, 0, 1), Bits: 128}, "128.1.zz"},
		{api.Prefix{Addr: v6(1, 0, 0, 0, 0, 0, 0, 1), Bits: 128}, "128.1.zz.1"},
		{api.Prefix{Addr: v6(1, 2, 3, 4, 5, 6, 7, 8), Bits: 128}, "128.8.7.6.5.4.3.2.1"},
		{api.Prefix{Addr: v6(0xfe80, 0xab, 0xc, 0xdef0, 0xffff, 0x10, 0x100, 0x1000), Bits: 127}, "127.1000.100.10.ffff.def0.c.ab.fe80"},
		// a zero alone is a zero
		{api.Prefix{Addr: v6(1, 0, 3, 4, 5, 6, 7, 8), Bits: 128}, "128.8.7.6.5.4.3.0.1"},
		{api.Prefix{Addr: v6(0, 2, 3, 4, 5, 6, 7, 0), Bits: 128}, "128.0.7.6.5.4.3.2.0"},
		{api.Prefix{Addr: v6(0, 2, 0, 4, 0, 6, 0, 8), Bits: 128}, "128.8.0.6.0.4.0.2.0"},
		// two of them are a run, and three a longer one
		{api.Prefix{Addr: v6(1, 0, 0, 4, 5, 6, 7, 8), Bits: 128}, "128.8.7.6.5.4.zz.1"},
		{api.Prefix{Addr: v6(1, 0, 0, 4, 0, 0, 0, 8), Bits: 128}, "128.8.zz.4.0.0.1"},
		{api.Prefix{Addr: v6(1, 0, 0, 0, 5, 0, 0, 8), Bits: 128}, "128.8.0.0.5.zz.1"},
		{api.Prefix{Addr: v6(0, 2, 3, 4, 5, 6, 0, 0), Bits: 128}, "128.zz.6.5.4.3.2.0"},
		{api.Prefix{Addr: v6(0, 0, 3, 4, 5, 6, 7, 0), Bits: 112}, "112.0.7.6.5.4.3.zz"},
		// of several as long the one nearest to the beginning
		{api.Prefix{Addr: v6(1, 0, 0, 4, 5, 0, 0, 8), Bits: 128}, "128.8.0.0.5.4.zz.1"},
		{api.Prefix{Addr: v6(0, 0, 3, 0, 0, 6, 0, 0), Bits: 128}, "128.0.0.6.0.0.3.zz"},
		{api.Prefix{Addr: v6(1, 0, 0, 0, 5, 0, 0, 0), Bits: 80}, "80.0.0.0.5.zz.1"},
		// four labels that are words
		{api.Prefix{Addr: v6(1, 2, 0, 0, 0, 0, 0, 4), Bits: 128}, "128.4.zz.2.1"},
		{api.Prefix{Addr: v6(0x10, 0x20, 0x30, 0, 0, 0, 0, 0), Bits: 44}, "44.zz.30.20.10"},
	}
}

// P13.1

func TestPrefixAndAddress(t *testing.T) {
	for _, c := range prefixes() {
		ls := strings.Split(c.text, ".")
		if got := owner.Prefix(c.p); !slices.Equal(got, ls) {
			t.Errorf("Prefix(%+v) = %q, want %q", c.p, got, ls)
		}
		if got, ok := owner.Address(ls); got != c.p || !ok {
			t.Errorf("Address(%q) = %+v, %v", ls, got, ok)
		}
	}
}

func TestPrefixOfNone(t *testing.T) {
	for _, p := range []api.Prefix{
		{}, {Bits: 8}, {Addr: "abc", Bits: 24}, {Addr: "\xc0\x00\x02\x09", Bits: 24}, {Addr: "\xc0\x00\x02\x09", Bits: 33}, {Addr: "\xc0\x00\x02\x09", Bits: -1},
		{Addr: v6(1, 2, 3, 4, 5, 6, 7, 8), Bits: 124}, {Addr: v6(0, 0, 0, 0, 0, 0, 0, 0), Bits: 129}, {Addr: v6(1, 2, 3, 4, 5, 6, 7), Bits: 112},
	} {
		if got := owner.Prefix(p); len(got) != 0 {
			t.Errorf("Prefix(%+v) = %q", p, got)
		}
	}
}

// noAddresses are texts of labels that are no prefix's.
func noAddresses() []string {
	return []string{
		"24", "zz", "24.0", "24.0.2.0", "24.0.2.0.192.1", "24.0.2.0.256", "24.0.2.0.1192", "24.0.2.0.300", "33.0.2.0.192", "-1.0.2.0.192", "256.0.2.0.192",
		"+24.0.2.0.192", "024.0.2.0.192", "24.0.2.0.0192", "24.00.2.0.192", "24.0.2.0.-64", "24.0.2.0.c0", "x.0.2.0.192", ".0.2.0.192", "24.0.2.0.", "24. 0.2.0.192", "24.0.2.0.+1",
		"0x18.0.2.0.192", "24.0.2.0.1_9", "24.9.2.0.192", "31.1.2.0.192", "0.0.0.0.1",
		"99999999999999999999.0.2.0.192", "24.0.2.0.99999999999999999999",
		"32.zz.1.2002.zz", "129.zz", "-1.zz", "0.zz.zz", "64.zz.1.zz", "32.zz.01.2001", "32.zz.1.02001", "32.zz.1.2001g", "32.zz.1.20011", "32.zz.1.-1", "31.zz.1.2001", "32.ZZ.1.2001", "0.z", "0.zzz",
		"32.zz.1.2001.0", "32.zz.0.1.2001", "32.0.zz.1.2001", "128.8.7.6.5.4.3.zz.1", "128.8.7.6.5.4.3.2", "128.9.8.7.6.5.4.3.2.1", "128.8.7.6.5.4.0.0.1", "128.8.0.0.5.zz.0.1", "128.8.zz.5.4.0.0.1",
		"128.0.0.0.0.0.0.0.0", "0.0.0.0.0.0.0.0.0", "0.0.0.0.0.0.0.0.0.0", "128.8.0.0.0.4.zz.1", "128.zz.7.6.5.4.3.2.1", "128.F.7.6.5.4.3.2.1", "128.8.7.6.5.4.3.2.0001", "128.8.7.6.5.4.3.2.",
		"128.0x8.7.6.5.4.3.2.1", "128.1.zz.1.zz.1", "128.8.7.6.5.4.3.2.1.zz", "zz.128",
	}
}

func TestAddressOfNone(t *testing.T) {
	for _, text := range noAddresses() {
		if got, ok := owner.Address(strings.Split(text, ".")); got != (api.Prefix{}) || ok {
			t.Errorf("Address(%q) = %+v, %v", text, got, ok)
		}
	}
	for _, ls := range [][]string{nil, {}, {""}, {"24", "0.2.0.192"}, slices.Repeat([]string{"1"}, 300), slices.Repeat([]string{"zz"}, 300)} {
		if got, ok := owner.Address(ls); got != (api.Prefix{}) || ok {
			t.Errorf("Address(%q) = %+v, %v", ls, got, ok)
		}
	}
}

func TestAddressLeavesItsLabelsAlone(t *testing.T) {
	ls := []string{"24", "0", "2", "0", "192"}
	owner.Address(ls)
	if strings.Join(ls, ".") != "24.0.2.0.192" {
		t.Error(ls)
	}
}

func TestPrefixesOfAllLengthsComeBack(t *testing.T) {
	for _, a := range []string{"\x00\x00\x00\x00", "\xff\xff\xff\xff", "\x01\x80\x7f\xfe", v6(0, 0, 0, 0, 0, 0, 0, 0), v6(0xffff, 0, 0, 0xffff, 0, 0, 0, 0x1f00), v6(0x1234, 0x00ff, 0xff00, 0, 1, 0xabcd, 0, 7)} {
		for bits := range 8*len(a) + 1 {
			p, _ := prefix.Cut(a, bits)
			ls := owner.Prefix(p)
			if len(ls) < 2 || ls[0] != strconv.Itoa(bits) {
				t.Errorf("Prefix(%+v) = %q", p, ls)
			}
			if got, ok := owner.Address(ls); got != p || !ok {
				t.Errorf("Address(%q) = %+v, %v", ls, got, ok)
			}
		}
	}
}

// P13.2, P13.3

func named(kind api.TriggerKind, n api.Name) api.Trigger { return api.Trigger{Kind: kind, Name: n} }

func TestDecodeAndEncodeOfNames(t *testing.T) {
	for text, want := range map[string]api.Trigger{
		"ex.":                            named(api.QName, "\x02ex"),
		"a.b.ex.":                        named(api.QName, "\x01a\x01b\x02ex"),
		"*.ex.":                          named(api.QWild, "\x02ex"),
		"*.":                             named(api.QWild, ""),
		"*.*.ex.":                        named(api.QWild, "\x01*\x02ex"),
		"*.*.":                           named(api.QWild, "\x01*"),
		"a.*.":                           named(api.QName, "\x01a\x01*"),
		"**.ex.":                         named(api.QName, "\x02**\x02ex"),
		"ns.ex.rpz-nsdname.":             named(api.NsName, "\x02ns\x02ex"),
		"*.ex.rpz-nsdname.":              named(api.NsWild, "\x02ex"),
		"*.rpz-nsdname.":                 named(api.NsWild, ""),
		"rpz-nsdname.rpz-nsdname.":       named(api.NsName, "\x0brpz-nsdname"),
		"24.0.2.0.192.rpz-nsdname.":      named(api.NsName, "\x0224\x010\x012\x010\x03192"),
		"rpz-ip.rpz-nsdname.":            named(api.NsName, "\x06rpz-ip"),
		"rpz-ip.ex.":                     named(api.QName, "\x06rpz-ip\x02ex"),
		"rpz-nsdname.ex.":                named(api.QName, "\x0brpz-nsdname\x02ex"),
		"24.0.2.0.192.rpz-ip.ex.":        named(api.QName, "\x0224\x010\x012\x010\x03192\x06rpz-ip\x02ex"),
		"rpz-ipx.":                       named(api.QName, "\x07rpz-ipx"),
		"rpz-i.":                         named(api.QName, "\x05rpz-i"),
		"rpz-passthru.":                  named(api.QName, "\x0crpz-passthru"),
		"*.rpz-client-ip.ex.":            named(api.QWild, "\x0drpz-client-ip\x02ex"),
		"\\000\\255.":                    named(api.QName, "\x02\x00\xff"),
		strings.Repeat("x.", 127):        named(api.QName, api.Name(strings.Repeat("\x01x", 127))),
		"*." + strings.Repeat("x.", 126): named(api.QWild, api.Name(strings.Repeat("\x01x", 126))),
		strings.Repeat("x.", 121) + "rpz-nsdname.": named(api.NsName, api.Name(strings.Repeat("\x01x", 121))),
	} {
		both(t, parse(t, text), want)
	}
}

func both(t *testing.T, n api.Name, want api.Trigger) {
	t.Helper()
	if got, ok := owner.Decode(n); got != want || !ok {
		t.Errorf("Decode(%q) = %+v, %v, want %+v", n, got, ok, want)
	}
	if got, ok := owner.Encode(want); got != n || !ok {
		t.Errorf("Encode(%+v) = %q, %v, want %q", want, got, ok, n)
	}
}

func TestDecodeAndEncodeOfPrefixes(t *testing.T) {
	for last, kind := range map[string]api.TriggerKind{"rpz-client-ip": api.ClientIP, "rpz-ip": api.AnswerIP, "rpz-nsip": api.NsIP} {
		for _, c := range prefixes() {
			both(t, parse(t, c.text+"."+last+"."), api.Trigger{Kind: kind, Prefix: c.p})
		}
	}
}

func TestDecodeOfNone(t *testing.T) {
	var none []api.Name
	for _, last := range []string{"rpz-client-ip.", "rpz-ip.", "rpz-nsip."} {
		none = append(none, parse(t, last))
		for _, text := range noAddresses() {
			var ls []string
			for _, l := range strings.Split(text, ".") {
				if l != "" {
					ls = append(ls, l)
				}
			}
			if n, ok := name.Make(append(ls, strings.TrimSuffix(last, "."))...); ok && text != ".0.2.0.192" && strings.ToLower(text) == text {
				none = append(none, n)
			}
		}
		none = append(none, parse(t, "ex."+last), parse(t, "*."+last), parse(t, "*.24.0.2.0.192."+last), parse(t, "24.0.2.0.192.*."+last), parse(t, "24.0.2.0.192."+last+last))
	}
	none = append(none, "", "a", "\x01A", "\x06RPZ-IP", "\x01a\x00", "\x02a", parse(t, "rpz-nsdname."), api.Name(strings.Repeat("\x01x", 128)))
	for _, n := range none {
		if got, ok := owner.Decode(n); got != (api.Trigger{}) || ok {
			t.Errorf("Decode(%q) = %+v, %v", n, got, ok)
		}
	}
}

func TestEncodeOfNone(t *testing.T) {
	net := api.Prefix{Addr: "\xc0\x00\x02\x00", Bits: 24}
	var none []api.Trigger
	for _, kind := range []api.TriggerKind{api.ClientIP, api.AnswerIP, api.NsIP} {
		none = append(none,
			api.Trigger{Kind: kind},
			api.Trigger{Kind: kind, Name: "\x01a"},
			api.Trigger{Kind: kind, Name: "\x01a", Prefix: net},
			api.Trigger{Kind: kind, Name: "a", Prefix: net},
			api.Trigger{Kind: kind, Prefix: api.Prefix{Addr: "\xc0\x00\x02\x09", Bits: 24}},
			api.Trigger{Kind: kind, Prefix: api.Prefix{Addr: "\xc0\x00\x02\x09", Bits: 33}},
			api.Trigger{Kind: kind, Prefix: api.Prefix{Addr: "abc", Bits: 8}},
			api.Trigger{Kind: kind, Prefix: api.Prefix{Bits: 24}},
		)
	}
	for _, kind := range []api.TriggerKind{api.QName, api.QWild, api.NsName, api.NsWild} {
		none = append(none,
			api.Trigger{Kind: kind, Name: "a"},
			api.Trigger{Kind: kind, Name: "\x01A"},
			api.Trigger{Kind: kind, Name: "\x01a", Prefix: net},
			api.Trigger{Kind: kind, Name: "\x01a", Prefix: api.Prefix{Bits: 1}},
			api.Trigger{Kind: kind, Name: api.Name(strings.Repeat("\x01x", 128))},
		)
	}
	for _, kind := range []api.TriggerKind{-1, 7, 8, 100, math.MaxInt, math.MinInt} {
		none = append(none, api.Trigger{Kind: kind}, api.Trigger{Kind: kind, Name: "\x01a"}, api.Trigger{Kind: kind, Prefix: net})
	}
	none = append(none,
		named(api.QName, ""), named(api.NsName, ""),
		named(api.QName, "\x01*"), named(api.QName, "\x01*\x01a"), named(api.NsName, "\x01*\x01a"), named(api.NsName, "\x01*"),
		// they would be other triggers, or none
		named(api.QName, "\x01a\x0brpz-nsdname"), named(api.QWild, "\x01a\x0brpz-nsdname"), named(api.QName, "\x0brpz-nsdname"), named(api.QWild, "\x0brpz-nsdname"),
		named(api.QName, "\x010\x02zz\x06rpz-ip"), named(api.QName, "\x01a\x06rpz-ip"), named(api.QWild, "\x08rpz-nsip"), named(api.QName, "\x0drpz-client-ip"),
		// too long with what is ahead, or behind
		named(api.QWild, api.Name(strings.Repeat("\x01x", 127))), named(api.NsName, api.Name(strings.Repeat("\x01x", 122))), named(api.NsWild, api.Name(strings.Repeat("\x01x", 121))),
	)
	for _, tr := range none {
		if got, ok := owner.Encode(tr); got != "" || ok {
			t.Errorf("Encode(%+v) = %q, %v", tr, got, ok)
		}
	}
}

func TestNoTwoNamesAreOneTrigger(t *testing.T) {
	labels := []string{"*", "a", "0", "zz", "rpz-ip", "rpz-nsip", "rpz-client-ip", "rpz-nsdname"}
	seen := map[api.Trigger]api.Name{}
	for i := range 8 * 8 * 8 * 8 {
		var ls []string
		for k := i; k > 0; k /= 8 {
			ls = append(ls, labels[k%8])
		}
		n, _ := name.Make(ls...)
		tr, ok := owner.Decode(n)
		if !ok {
			continue
		}
		if other, ok := seen[tr]; ok && other != n {
			t.Errorf("%q and %q are %+v", n, other, tr)
		}
		seen[tr] = n
		if back, ok := owner.Encode(tr); back != n || !ok {
			t.Errorf("Encode(%+v) = %q, %v, want %q", tr, back, ok, n)
		}
	}
	if len(seen) < 500 {
		t.Errorf("only %d triggers", len(seen))
	}
}
