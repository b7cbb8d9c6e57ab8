package event_test

import (
	"math"
	"strings"
	"testing"

	"bolter/api"
	"bolter/event"
)

var long = api.Name(strings.Repeat("\x01x", 127))

func full() event.Event {
	return event.Event{
		Time: 0x01020304, Client: "\xc0\x00\x02\x09", Name: "\x01a\x02bc", Type: 0x1234, Zone: 5,
		Trigger: api.Trigger{Kind: api.AnswerIP, Prefix: api.Prefix{Addr: "\xc0\x00\x02\x00", Bits: 24}}, Action: api.Local,
	}
}

const fullBytes = "\x01\x02\x03\x04" + "\x04\xc0\x00\x02\x09" + "\x05\x01a\x02bc" + "\x12\x34" + "\x05\x08" + "\x14\x0224\x010\x012\x010\x03192\x06rpz-ip"

// variants are events of which each one may be, or may not.
func variants() map[string]struct {
	e  event.Event
	ok bool
} {
	out := map[string]struct {
		e  event.Event
		ok bool
	}{}
	add := func(why string, ok bool, change func(e *event.Event)) {
		e := full()
		change(&e)
		out[why] = struct {
			e  event.Event
			ok bool
		}{e, ok}
	}
	add("as it is", true, func(e *event.Event) {})
	add("time 0", true, func(e *event.Event) { e.Time = 0 })
	add("the last time", true, func(e *event.Event) { e.Time = math.MaxUint32 })
	add("a time too late", false, func(e *event.Event) { e.Time = math.MaxUint32 + 1 })
	add("a time far too late", false, func(e *event.Event) { e.Time = math.MaxInt })
	add("time -1", false, func(e *event.Event) { e.Time = -1 })
	add("a time far too early", false, func(e *event.Event) { e.Time = math.MinInt })
	add("no client", true, func(e *event.Event) { e.Client = "" })
	add("an odd client", true, func(e *event.Event) { e.Client = "abc" })
	add("a client of 16 bytes", true, func(e *event.Event) { e.Client = strings.Repeat("c", 16) })
	add("a client of 17 bytes", false, func(e *event.Event) { e.Client = strings.Repeat("c", 17) })
	add("a client of 300 bytes", false, func(e *event.Event) { e.Client = strings.Repeat("c", 300) })
	add("the root", true, func(e *event.Event) { e.Name = "" })
	add("the longest name", true, func(e *event.Event) { e.Name = long })
	add("a name too long", false, func(e *event.Event) { e.Name = long + "\x01x" })
	add("no name", false, func(e *event.Event) { e.Name = "a" })
	add("a name with a great letter", false, func(e *event.Event) { e.Name = "\x01A" })
	add("type 0", true, func(e *event.Event) { e.Type = 0 })
	add("the last type", true, func(e *event.Event) { e.Type = 65535 })
	add("zone 0", true, func(e *event.Event) { e.Zone = 0 })
	add("zone 31", true, func(e *event.Event) { e.Zone = 31 })
	add("zone 32", false, func(e *event.Event) { e.Zone = 32 })
	add("zone 256", false, func(e *event.Event) { e.Zone = 256 })
	add("zone -1", false, func(e *event.Event) { e.Zone = -1 })
	add("a trigger of a name", true, func(e *event.Event) { e.Trigger = api.Trigger{Kind: api.QName, Name: "\x01a"} })
	add("a wild trigger", true, func(e *event.Event) { e.Trigger = api.Trigger{Kind: api.NsWild, Name: ""} })
	add("a long trigger", true, func(e *event.Event) { e.Trigger = api.Trigger{Kind: api.QName, Name: long} })
	add("no trigger", false, func(e *event.Event) { e.Trigger = api.Trigger{} })
	add("a trigger of the root", false, func(e *event.Event) { e.Trigger = api.Trigger{Kind: api.QName} })
	add("a trigger too long", false, func(e *event.Event) { e.Trigger = api.Trigger{Kind: api.QWild, Name: long} })
	add("a trigger of another kind", false, func(e *event.Event) { e.Trigger.Kind = 7 })
	add("a trigger with a name", false, func(e *event.Event) { e.Trigger.Name = "\x01a" })
	for kind := range api.Local + 1 {
		add("the action "+string(rune('0'+kind)), true, func(e *event.Event) { e.Action = kind })
	}
	add("the action 9", false, func(e *event.Event) { e.Action = 9 })
	add("the action 256", false, func(e *event.Event) { e.Action = 256 })
	add("the action -1", false, func(e *event.Event) { e.Action = -1 })
	add("the longest", true, func(e *event.Event) {
		e.Client, e.Name, e.Trigger = strings.Repeat("c", 16), long, api.Trigger{Kind: api.QName, Name: long}
	})
	return out
}

// P25.1

func TestMayAndEncode(t *testing.T) {
	for why, c := range variants() {
		if got := event.May(c.e); got != c.ok {
			t.Errorf("%s: May = %v", why, got)
		}
		b, ok := event.Encode(c.e)
		if ok != c.ok || (len(b) > 0) != c.ok {
			t.Errorf("%s: Encode = %q, %v", why, b, ok)
		}
		if !c.ok {
			continue
		}
		if got, ok := event.Decode(b); got != c.e || !ok {
			t.Errorf("%s: Decode(%q) = %+v, %v", why, b, got, ok)
		}
	}
	if event.May(event.Event{}) {
		t.Error("the zero event may be")
	}
}

func TestEncodeByBytes(t *testing.T) {
	small := event.Event{Time: 1, Type: api.A, Trigger: api.Trigger{Kind: api.QName, Name: "\x01a"}, Action: api.Drop}
	for want, e := range map[string]event.Event{
		"\x00\x00\x00\x01\x00\x00\x00\x01\x00\x03\x02\x01a": small,
		fullBytes: full(),
	} {
		if got, ok := event.Encode(e); string(got) != want || !ok {
			t.Errorf("Encode(%+v) = %q, %v", e, got, ok)
		}
		if got, ok := event.Decode([]byte(want)); got != e || !ok {
			t.Errorf("Decode(%q) = %+v, %v", want, got, ok)
		}
	}
}

func TestDecodeOfNone(t *testing.T) {
	cases := map[string]string{
		"a byte more":                fullBytes + "\x00",
		"a client of 17 bytes":       "\x00\x00\x00\x01\x11" + strings.Repeat("c", 17) + "\x00\x00\x01\x00\x03\x02\x01a",
		"a client that goes on":      "\x00\x00\x00\x01\xff\x00\x00\x01\x00\x03\x02\x01a",
		"no name":                    "\x00\x00\x00\x01\x00\x01a\x00\x01\x00\x03\x02\x01a",
		"a name with a great letter": "\x00\x00\x00\x01\x00\x02\x01A\x00\x01\x00\x03\x02\x01a",
		"a name too long":            "\x00\x00\x00\x01\x00\xff" + strings.Repeat("\x01x", 128)[:255] + "\x00\x01\x00\x03\x02\x01a",
		"a name that goes on":        "\x00\x00\x00\x01\x00\x20\x01a\x00\x01\x00\x03\x02\x01a",
		"zone 32":                    "\x00\x00\x00\x01\x00\x00\x00\x01\x20\x03\x02\x01a",
		"zone 255":                   "\x00\x00\x00\x01\x00\x00\x00\x01\xff\x03\x02\x01a",
		"the action 9":               "\x00\x00\x00\x01\x00\x00\x00\x01\x00\x09\x02\x01a",
		"the action 255":             "\x00\x00\x00\x01\x00\x00\x00\x01\x00\xff\x02\x01a",
		"no trigger":                 "\x00\x00\x00\x01\x00\x00\x00\x01\x00\x03\x00",
		"no length of a trigger":     "\x00\x00\x00\x01\x00\x00\x00\x01\x00\x03",
		"a trigger of no name":       "\x00\x00\x00\x01\x00\x00\x00\x01\x00\x03\x01a",
		"a trigger of no prefix":     "\x00\x00\x00\x01\x00\x00\x00\x01\x00\x03\x07\x06rpz-ip",
		"a great letter in it":       "\x00\x00\x00\x01\x00\x00\x00\x01\x00\x03\x02\x01A",
		"a trigger cut off":          "\x00\x00\x00\x01\x00\x00\x00\x01\x00\x03\x03\x01a",
		"a trigger too short":        "\x00\x00\x00\x01\x00\x00\x00\x01\x00\x03\x01\x01a",
		"no bytes behind a name":     "\x00\x00\x00\x01\x00\x00",
		"three bytes behind a name":  "\x00\x00\x00\x01\x00\x00\x00\x01\x00",
	}
	for i := range len(fullBytes) {
		cases["the first "+string(rune('A'+i))] = fullBytes[:i]
	}
	for why, b := range cases {
		if got, ok := event.Decode([]byte(b)); got != (event.Event{}) || ok {
			t.Errorf("%s: Decode(%q) = %+v, %v", why, b, got, ok)
		}
	}
	if got, ok := event.Decode(nil); got != (event.Event{}) || ok {
		t.Errorf("%+v, %v", got, ok)
	}
}

func TestDecodeOfAnyBytes(t *testing.T) {
	x := uint32(1)
	for range 20000 {
		b := []byte(fullBytes)
		for range 1 + x>>30 {
			x = x*1664525 + 1013904223
			b[int(x>>8)%len(b)] = byte(x >> 24)
		}
		e, ok := event.Decode(b)
		if !ok {
			continue
		}
		if again, ok := event.Encode(e); string(again) != string(b) || !ok {
			t.Fatalf("Decode(%q) = %+v, whose bytes are %q", b, e, again)
		}
	}
}

func TestDecodeKeepsNothing(t *testing.T) {
	b := []byte(fullBytes)
	e, _ := event.Decode(b)
	for i := range b {
		b[i] = '!'
	}
	if e != full() {
		t.Errorf("%+v", e)
	}
}
