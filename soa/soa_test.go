package soa_test

import (
	"math"
	"strings"
	"testing"

	"bolter/api"
	"bolter/soa"
)

var longest = api.Name(strings.Repeat("\x01x", 127))

// P7.1

func TestDataAndParse(t *testing.T) {
	for _, c := range []struct {
		s soa.Soa
		d string
	}{
		{soa.Soa{"", "", 1, 2, 3, 4, 5}, "\x00\x00\x00\x00\x00\x01\x00\x00\x00\x02\x00\x00\x00\x03\x00\x00\x00\x04\x00\x00\x00\x05"},
		{soa.Soa{"\x02ns\x01x", "\x01m\x01x", 0x01020304, 0x05060708, 0x090a0b0c, 0x0d0e0f10, 0x11121314},
			"\x02ns\x01x\x00\x01m\x01x\x00\x01\x02\x03\x04\x05\x06\x07\x08\x09\x0a\x0b\x0c\x0d\x0e\x0f\x10\x11\x12\x13\x14"},
		{soa.Soa{"", "\x01m", math.MaxUint32, 0, 1 << 31, 0, math.MaxUint32}, "\x00\x01m\x00\xff\xff\xff\xff\x00\x00\x00\x00\x80\x00\x00\x00\x00\x00\x00\x00\xff\xff\xff\xff"},
		{soa.Soa{"\x01m", "", 0, 0, 0, 0, 0}, "\x01m\x00\x00" + strings.Repeat("\x00", 20)},
		{soa.Soa{}, strings.Repeat("\x00", 22)},
		{soa.Soa{Master: longest, Mail: longest}, string(longest) + "\x00" + string(longest) + "\x00" + strings.Repeat("\x00", 20)},
	} {
		if got, ok := soa.Data(c.s); got != c.d || !ok {
			t.Errorf("Data(%+v) = %q, %v", c.s, got, ok)
		}
		if got, ok := soa.Parse(c.d); got != c.s || !ok {
			t.Errorf("Parse(%q) = %+v, %v", c.d, got, ok)
		}
		if got, ok := soa.Of(api.Record{Name: "\x01o", Type: api.SOA, TTL: 3, Data: c.d}); got != c.s || !ok {
			t.Errorf("Of %q = %+v, %v", c.d, got, ok)
		}
	}
}

func TestDataOfNoNames(t *testing.T) {
	for _, n := range []api.Name{"a", "\x01A", "\x01a\x00", "\x02a", longest + "\x01x"} {
		for _, s := range []soa.Soa{{Master: n}, {Mail: n}, {Master: n, Mail: n}, {Master: "\x01a", Mail: n, Serial: 5}} {
			if got, ok := soa.Data(s); got != "" || ok {
				t.Errorf("Data(%+v) = %q, %v", s, got, ok)
			}
		}
	}
}

func TestParseOfNoData(t *testing.T) {
	numbers := strings.Repeat("n", 20)
	for _, d := range []string{
		"", "\x00", "\x00\x00", "\x00\x00" + numbers[1:], "\x00\x00" + numbers + "n", "\x00\x00\x00" + numbers, "\x01a\x00", "\x01a\x00" + "\x01b",
		"\x01A\x00\x00" + numbers, "\x00\x01A\x00" + numbers, "\x02a\x00", "\xc0\x00\x00" + numbers, numbers,
		string(longest) + "\x01x\x00\x00" + numbers, "\x00" + string(longest) + "\x01x\x00" + numbers, strings.Repeat("\x00", 19),
	} {
		if got, ok := soa.Parse(d); got != (soa.Soa{}) || ok {
			t.Errorf("Parse(%q) = %+v, %v", d, got, ok)
		}
		if got, ok := soa.Of(api.Record{Type: api.SOA, Data: d}); got != (soa.Soa{}) || ok {
			t.Errorf("Of %q = %+v, %v", d, got, ok)
		}
	}
}

func TestOfOtherTypes(t *testing.T) {
	d := "\x01a\x00\x01b\x00" + strings.Repeat("n", 20)
	for _, typ := range []api.Type{0, api.A, api.NS, api.CNAME, 7, api.TXT, 99, api.AXFR, 262} {
		if got, ok := soa.Of(api.Record{Type: typ, Data: d}); got != (soa.Soa{}) || ok {
			t.Errorf("Of a record of type %d = %+v, %v", typ, got, ok)
		}
	}
}
