package front_test

import (
	"fmt"
	"math"
	"reflect"
	"slices"
	"strings"
	"testing"

	"bolter/api"
	"bolter/device"
	"bolter/event"
	"bolter/front"
	"bolter/journal"
	"bolter/message"
	"bolter/name"
	"bolter/reply"
	"bolter/search"
	"bolter/soa"
	"bolter/zone"
)

const (
	v4 = "\xc0\x00\x02\x09"
	me = "\x0a\x00\x00\x01" // a client
)

func parse(text string) api.Name {
	n, ok := name.Parse(text)
	if !ok {
		panic(text)
	}
	return n
}

// bytes are those of a message.
func bytes(m api.Message) []byte {
	b, ok := message.Encode(m, math.MaxInt)
	if !ok {
		panic(fmt.Sprint(m))
	}
	return b
}

func decode(t *testing.T, b []byte) api.Message {
	t.Helper()
	m, err := message.Decode(b)
	if err != nil {
		t.Fatalf("%q: %v", b, err)
	}
	return m
}

// cname is a record of the zone rpz.
func cname(text, target string) api.Record {
	return api.Record{Name: parse(text) + "\x03rpz", Type: api.CNAME, TTL: 5, Data: string(parse(target))}
}

// at is the SOA of a zone: refreshed after 20, tried again after 7, over after 100.
func at(origin api.Name, serial uint32) api.Record {
	d, _ := soa.Data(soa.Soa{Master: "\x01m", Serial: serial, Refresh: 20, Retry: 7, Expire: 100})
	return api.Record{Name: origin, Type: api.SOA, TTL: 60, Data: d}
}

// next is the number that is drawn behind another one.
func next(n uint16) uint16 { return uint16((25173*int(n) + 13849) % 65536) }

func ask(id uint16, text string, t api.Type) api.Message {
	return api.Message{Header: api.Header{ID: id, Desired: true}, Question: api.Question{Name: parse(text), Type: t}}
}

// client is a packet to the client at me, port 5353, that did not come by tcp.
func client(m api.Message) front.Packet {
	return front.Packet{To: front.Client, Addr: me, Port: 5353, Bytes: bytes(m)}
}

func upstream(id uint16, text string, t api.Type) front.Packet {
	m := ask(id, text, t)
	m.Size = 4096
	return front.Packet{To: front.Upstream, Bytes: bytes(m)}
}

// request is a packet to the master of a zone.
func request(k int, id uint16, origin api.Name, t api.Type, since ...api.Record) front.Packet {
	m := api.Message{Header: api.Header{ID: id}, Question: api.Question{Name: origin, Type: t}, Authority: since}
	return front.Packet{To: front.Master, Tcp: t != api.SOA, Zone: k, Bytes: bytes(m)}
}

// sent holds packets against those that should be sent.
func sent(t *testing.T, why string, got []front.Packet, want ...front.Packet) {
	t.Helper()
	if len(got) != len(want) {
		t.Fatalf("%s: %d packets, not %d: %+v", why, len(got), len(want), got)
	}
	for i := range got {
		if !reflect.DeepEqual(got[i], want[i]) {
			a, _ := message.Decode(got[i].Bytes)
			b, _ := message.Decode(want[i].Bytes)
			t.Errorf("%s: %+v is sent, not %+v; %+v, not %+v", why, got[i], want[i], a, b)
		}
	}
}

// world is a front end, its device, and the last number it drew.
type world struct {
	t      *testing.T
	f      *front.Front
	d      *device.Device
	number uint16
}

// begun is one of zones that are not there.
func begun(t *testing.T, c front.Config) *world {
	w := &world{t: t, d: &device.Device{}, number: 7}
	w.f = front.Of(c, w.number, w.d)
	return w
}

func (w *world) draw() uint16 {
	w.number = next(w.number)
	return w.number
}

// load has a zone come by an AXFR that a tick has asked for by a number.
func (w *world) load(k int, id uint16, origin api.Name, serial uint32, rs ...api.Record) {
	w.t.Helper()
	s := at(origin, serial)
	answer := slices.Concat([]api.Record{s}, rs, []api.Record{s})
	sent(w.t, "load", w.f.Transfer(k, bytes(api.Message{Header: api.Header{ID: id, Reply: true}, Question: api.Question{Name: origin, Type: api.AXFR}, Answer: answer})))
	w.draw()
}

// policies is one at time 1 whose one zone, rpz, has these records.
func policies(t *testing.T, c front.Config, rs ...api.Record) *world {
	t.Helper()
	c.Origins = []api.Name{"\x03rpz"}
	w := begun(t, c)
	w.f.Tick()
	w.load(0, w.draw(), "\x03rpz", 5, rs...)
	return w
}

// query asks, and is the packet to the upstream's number.
func (w *world) query(m api.Message, tcp bool) uint16 {
	w.t.Helper()
	id := w.draw()
	want := api.Message{Header: api.Header{ID: id, Desired: true}, Question: m.Question, Size: 4096}
	sent(w.t, "query", w.f.Query(me, 5353, tcp, bytes(m)), front.Packet{To: front.Upstream, Bytes: bytes(want)})
	return id
}

// told is an upstream's answer to a question by a number.
func told(id uint16, q api.Question, rs ...api.Record) api.Message {
	return api.Message{Header: api.Header{ID: id, Reply: true, Authoritative: true, Available: true}, Question: q, Answer: rs}
}

// P27.1

func TestOf(t *testing.T) {
	w := begun(t, front.Config{Origins: []api.Name{"\x01a", "\x01b"}})
	if w.f.Ready() || w.f.Now() != 0 || w.f.Pending() != 0 || len(w.f.Events()) != 0 || w.d.Writes() != 0 || len(w.d.Segments()) != 0 {
		t.Error("it does not begin")
	}
	for _, k := range []int{-1, 0, 1, 2, 100, math.MaxInt, math.MinInt} {
		if rs, live := w.f.Zone(k); len(rs) != 0 || live {
			t.Errorf("zone %d: %+v, %v", k, rs, live)
		}
	}
	if a, ok := w.f.Wins(search.Facts{Name: "\x01a"}); ok || a.Kind != 0 {
		t.Errorf("%+v, %v", a, ok)
	}
	if none := begun(t, front.Config{}); !none.f.Ready() {
		t.Error("without zones it is not ready")
	}
}

func TestTheZeroFrontEnds(t *testing.T) {
	f := &front.Front{}
	q := ask(9, "x.", api.A)
	f.Query(me, 5353, false, bytes(q))
	f.Answer(bytes(told(13849, q.Question)), nil, nil)
	f.Transfer(0, bytes(q))
	f.Tick()
	f.Zone(0)
	f.Events()
	f.Wins(search.Facts{})
}

func TestReadyAndZone(t *testing.T) {
	w := begun(t, front.Config{Origins: []api.Name{"\x01a", "\x01b"}})
	w.f.Tick()
	first, second := w.draw(), w.draw()
	r := api.Record{Name: "\x01x\x01b", Type: api.CNAME}
	w.load(1, second, "\x01b", 5, r)
	if w.f.Ready() {
		t.Error("it is ready by one of two zones")
	}
	w.load(0, first, "\x01a", 6)
	if !w.f.Ready() {
		t.Error("it is not ready")
	}
	rs, live := w.f.Zone(1)
	if !live || !slices.Equal(rs, []api.Record{at("\x01b", 5), r}) {
		t.Errorf("%+v, %v", rs, live)
	}
	rs[0], rs[1] = api.Record{}, api.Record{}
	if rs, live := w.f.Zone(1); !live || rs[1] != r {
		t.Errorf("%+v, %v", rs, live)
	}
	if rs, live := w.f.Zone(0); !live || !slices.Equal(rs, []api.Record{at("\x01a", 6)}) {
		t.Errorf("%+v, %v", rs, live)
	}
	if rs, live := w.f.Zone(2); len(rs) != 0 || live {
		t.Errorf("%+v, %v", rs, live)
	}
	for w.f.Now() < 100 {
		w.f.Tick()
	}
	if _, live := w.f.Zone(0); !live {
		t.Error("it is not live at 100")
	}
	w.f.Tick()
	if rs, live := w.f.Zone(0); live || len(rs) != 1 {
		t.Errorf("%+v, %v at 101", rs, live)
	}
	if !w.f.Ready() {
		t.Error("a zone that is over is not there any more")
	}
}

func TestAtMost32Zones(t *testing.T) {
	var origins []api.Name
	for i := range 40 {
		origins = append(origins, api.Name([]byte{1, byte(i)}))
	}
	w := begun(t, front.Config{Origins: origins})
	got := w.f.Tick()
	if len(got) != 32 || got[31].Zone != 31 {
		t.Errorf("%d packets", len(got))
	}
	for k := range 32 {
		w.load(k, decode(t, got[k].Bytes).Header.ID, origins[k], 5)
	}
	if !w.f.Ready() {
		t.Error("it is not ready")
	}
	if _, live := w.f.Zone(32); live {
		t.Error("there is a zone 32")
	}
	sent(t, "zone 32", w.f.Transfer(32, got[31].Bytes))
}

func TestTheJournalIsRecovered(t *testing.T) {
	e := event.Event{Time: 3, Name: "\x01a", Trigger: api.Trigger{Kind: api.QName, Name: "\x01a"}, Action: api.Drop}
	b, _ := event.Encode(e)
	d := &device.Device{}
	j := journal.Of(d)
	j.Write(b)
	j.Write([]byte("something else"))
	j.Write(b)
	d.Append([]byte("torn"))
	f := front.Of(front.Config{}, 1, d)
	if got := f.Events(); !slices.Equal(got, []event.Event{e, e}) {
		t.Errorf("%+v", got)
	}
	if all, whole := journal.Read(d); !whole || len(all) != 3 || d.Safe() != d.Last() {
		t.Errorf("%q, %v", all, whole)
	}
}

func TestConfigIsNotKept(t *testing.T) {
	c := front.Config{Origins: []api.Name{"\x03rpz"}, Overs: []api.ActionKind{api.Given}}
	f := front.Of(c, 7, &device.Device{})
	c.Origins[0], c.Overs[0] = "\x01q", api.Drop
	sent(t, "tick", f.Tick(), request(0, next(7), "\x03rpz", api.AXFR))
}

func TestWins(t *testing.T) {
	w := policies(t, front.Config{}, cname("ex.", "."), cname("24.0.2.0.192.rpz-ip.", "to."))
	for _, c := range []struct {
		f    search.Facts
		want api.Action
		ok   bool
	}{
		{search.Facts{Name: parse("ex.")}, api.Action{Kind: api.Missing}, true},
		{search.Facts{Name: parse("e.")}, api.Action{}, false},
		{search.Facts{Name: parse("e."), Answers: []string{v4}}, api.Action{Kind: api.Rewrite, Target: parse("to.")}, true},
	} {
		if got, ok := w.f.Wins(c.f); !reflect.DeepEqual(got, c.want) || ok != c.ok {
			t.Errorf("%+v, %v, want %+v", got, ok, c.want)
		}
	}
	if w.d.Writes() != 0 || len(w.f.Events()) != 0 {
		t.Error("it is written to the journal")
	}
}

// P27.2

func TestQueryOfNoMessage(t *testing.T) {
	w := policies(t, front.Config{})
	wrong := func(id uint16) front.Packet {
		return client(api.Message{Header: api.Header{ID: id, Reply: true, Code: 1}})
	}
	good := string(bytes(ask(0x0102, "x.", api.A)))
	for b, want := range map[string][]front.Packet{
		"":                           nil,
		"\x01":                       nil,
		"\x01\x02":                   {wrong(0x0102)},
		"\x01\x02\x00":               {wrong(0x0102)},
		"\x01\x02\x7f":               {wrong(0x0102)},
		"\x01\x02\x80":               nil,
		"\xff\xfe\xff\xff\xff":       nil,
		good + "x":                   {wrong(0x0102)},
		good[:len(good)-1]:           {wrong(0x0102)},
		"\xff\xfe\x01\x70" + good:    {wrong(0xfffe)},
		strings.Repeat("\x00", 5000): {wrong(0)},
	} {
		sent(t, fmt.Sprintf("%q", b), w.f.Query(me, 5353, false, []byte(b)), want...)
	}
	sent(t, "nil", w.f.Query(me, 5353, false, nil))
	p := wrong(0x0102)
	p.Tcp, p.Port, p.Addr = true, -3, "anyone"
	sent(t, "by tcp", w.f.Query("anyone", -3, true, []byte("\x01\x02")), p)
	if w.f.Pending() != 0 {
		t.Error("it waits")
	}
	w.query(ask(1, "x.", api.A), false) // no number was drawn
}

func TestQueryThatIsNotForwarded(t *testing.T) {
	for _, ready := range []bool{true, false} {
		w := policies(t, front.Config{})
		if !ready {
			w = begun(t, front.Config{Origins: []api.Name{"\x03rpz"}})
		}
		base := func(q api.Message, code int) front.Packet { return client(reply.Base(q, code)) }
		q := ask(9, "a.b.", api.A)
		answer := q
		answer.Header.Reply = true
		sent(t, "a reply", w.f.Query(me, 5353, false, bytes(answer)))
		answer.Header.Opcode = 4
		sent(t, "a reply to a notify", w.f.Query(me, 5353, false, bytes(answer)))
		for _, op := range []int{1, 4, 5, 15} {
			odd := q
			odd.Header.Opcode = op
			sent(t, "another operation", w.f.Query(me, 5353, false, bytes(odd)), base(odd, 4))
			odd.Question.Type = api.AXFR
			sent(t, "another operation, of a transfer", w.f.Query(me, 5353, false, bytes(odd)), base(odd, 4))
		}
		for _, typ := range []api.Type{api.AXFR, api.IXFR} {
			odd := q
			odd.Question.Type = typ
			sent(t, "a transfer", w.f.Query(me, 5353, false, bytes(odd)), base(odd, 5))
		}
		if !ready {
			sent(t, "a query too early", w.f.Query(me, 5353, false, bytes(q)), base(q, 2))
			sized := q
			sized.Size = 5000
			p := base(sized, 2)
			p.Tcp = true
			sent(t, "a query too early, by tcp", w.f.Query(me, 5353, true, bytes(sized)), p)
			continue
		}
		if w.f.Pending() != 0 {
			t.Error("they wait")
		}
		w.query(q, false) // no number was drawn
	}
}

func TestQueryIsForwarded(t *testing.T) {
	w := policies(t, front.Config{})
	q := ask(9, "a.b.", api.TXT)
	q.Header.Desired = false
	q.Answer, q.Size = []api.Record{{Name: "\x01z", Type: api.A, Data: v4}}, 600
	w.query(q, false)
	if w.f.Pending() != 1 {
		t.Error(w.f.Pending())
	}
	w.query(q, true)
	if w.f.Pending() != 2 {
		t.Error(w.f.Pending())
	}
	sent(t, "another one", w.f.Query("", 0, false, bytes(ask(1, ".", api.OPT))), upstream(w.draw(), ".", api.OPT))
}

func TestTheTableIsFull(t *testing.T) {
	w := policies(t, front.Config{Wait: 3})
	for i := range 16 {
		w.query(ask(uint16(i), "x.", api.A), false)
		if w.f.Pending() != i+1 {
			t.Error(w.f.Pending())
		}
	}
	q := ask(99, "y.", api.A)
	for range 3 {
		sent(t, "the 17th", w.f.Query(me, 5353, false, bytes(q)), client(reply.Base(q, 2)))
		w.draw()
	}
	if w.f.Pending() != 16 {
		t.Error(w.f.Pending())
	}
	for range 3 {
		w.f.Tick()
		w.draw()
	}
	w.query(q, false)
}

func TestNumbersThatAreTaken(t *testing.T) {
	// The numbers come again after all have been drawn: then the one that still waits is left out.
	w := policies(t, front.Config{Wait: 1 << 40})
	q := ask(5, "x.", api.A)
	first := w.query(q, false)
	var last uint16
	for range 1<<16 - 1 {
		last = w.query(q, false)
		sent(t, "answered", w.f.Answer(bytes(told(last, q.Question)), nil, nil), client(reply.Passed(q, told(last, q.Question))))
	}
	if n := w.draw(); n != first {
		t.Fatalf("the first number again is %d, not %d", n, first)
	}
	sent(t, "a number that is taken", w.f.Query(me, 5353, false, bytes(q)), upstream(first+1, "x.", api.A))
}

// P27.3

func TestAnswerOfNothing(t *testing.T) {
	w := policies(t, front.Config{}, cname("x.", "."))
	q := ask(9, "x.", api.A)
	id := w.query(q, false)
	good := told(id, q.Question)
	for why, change := range map[string]func(m *api.Message){
		"no reply":        func(m *api.Message) { m.Header.Reply = false },
		"another number":  func(m *api.Message) { m.Header.ID++ },
		"the query's own": func(m *api.Message) { m.Header.ID = 9 },
		"another name":    func(m *api.Message) { m.Question.Name = "\x01y" },
		"another type":    func(m *api.Message) { m.Question.Type = api.AAAA },
	} {
		m := good
		change(&m)
		sent(t, why, w.f.Answer(bytes(m), nil, nil))
	}
	sent(t, "no message", w.f.Answer(bytes(good)[:15], nil, nil))
	sent(t, "nothing", w.f.Answer(nil, nil, nil))
	if w.f.Pending() != 1 || len(w.f.Events()) != 0 || w.d.Writes() != 0 {
		t.Error("they have an effect")
	}
	sent(t, "the answer", w.f.Answer(bytes(good), nil, nil), client(reply.Base(q, 3)))
	sent(t, "the answer again", w.f.Answer(bytes(good), nil, nil))
	if w.f.Pending() != 0 || len(w.f.Events()) != 1 {
		t.Error(w.f.Pending(), w.f.Events())
	}
}

func TestAnswerIsPassed(t *testing.T) {
	w := policies(t, front.Config{}, cname("x.", "."))
	q := ask(9, "y.", api.A)
	q.Size = 800
	id := w.query(q, false)
	m := told(id, q.Question, api.Record{Name: "\x01y", Type: api.A, TTL: 3, Data: v4})
	m.Header.Code, m.Header.Truncated, m.Size = 9, true, 77
	m.Authority = []api.Record{{Name: "\x01y", Type: api.NS, Data: "\x01n"}}
	m.Extra = []api.Record{{Name: "\x01n", Type: 99}}
	sent(t, "passed", w.f.Answer(bytes(m), nil, nil), client(reply.Passed(q, m)))
	if len(w.f.Events()) != 0 || w.d.Writes() != 0 || w.f.Pending() != 0 {
		t.Error("it has an effect")
	}
}

func TestAnswerIsLimited(t *testing.T) {
	var rs []api.Record
	for range 60 {
		rs = append(rs, api.Record{Name: "\x01y", Type: api.A, TTL: 3, Data: v4})
	}
	for _, c := range []struct {
		size int
		tcp  bool
		cut  bool
	}{{0, false, true}, {512, false, true}, {900, false, true}, {1100, false, false}, {5000, false, false}, {0, true, false}, {512, true, false}} {
		w := policies(t, front.Config{})
		q := ask(9, "y.", api.A)
		q.Size = c.size
		id := w.query(q, c.tcp)
		want := reply.Passed(q, told(id, q.Question, rs...))
		if c.cut {
			want.Answer, want.Header.Truncated = nil, true
		}
		p := client(want)
		p.Tcp = c.tcp
		sent(t, fmt.Sprint(c), w.f.Answer(bytes(told(id, q.Question, rs...)), nil, nil), p)
	}
}

func TestAnswerByPolicies(t *testing.T) {
	servers, hosts := []api.Name{parse("ns.bad.")}, []string{"\xc6\x33\x64\x01"}
	rs := []api.Record{{Name: "\x01y", Type: api.A, TTL: 3, Data: v4}, {Name: "\x01y", Type: api.A, TTL: 3, Data: "\xcb\x00\x71\x05"}}
	for why, c := range map[string]struct {
		rs      []api.Record
		trigger api.Trigger
		action  api.Action
	}{
		"a client":           {[]api.Record{cname("8.0.0.0.10.rpz-client-ip.", "to.")}, api.Trigger{Kind: api.ClientIP, Prefix: api.Prefix{Addr: "\x0a\x00\x00\x00", Bits: 8}}, api.Action{Kind: api.Rewrite, Target: parse("to.")}},
		"a name":             {[]api.Record{cname("y.", "*.to.")}, api.Trigger{Kind: api.QName, Name: "\x01y"}, api.Action{Kind: api.Rewrite, Target: parse("to."), Wild: true}},
		"a wild name":        {[]api.Record{cname("*.", "*.")}, api.Trigger{Kind: api.QWild}, api.Action{Kind: api.Empty}},
		"an address":         {[]api.Record{cname("32.5.113.0.203.rpz-ip.", ".")}, api.Trigger{Kind: api.AnswerIP, Prefix: api.Prefix{Addr: "\xcb\x00\x71\x05", Bits: 32}}, api.Action{Kind: api.Missing}},
		"a server":           {[]api.Record{cname("ns.bad.rpz-nsdname.", ".")}, api.Trigger{Kind: api.NsName, Name: parse("ns.bad.")}, api.Action{Kind: api.Missing}},
		"a wild server":      {[]api.Record{cname("*.bad.rpz-nsdname.", ".")}, api.Trigger{Kind: api.NsWild, Name: parse("bad.")}, api.Action{Kind: api.Missing}},
		"a server's address": {[]api.Record{cname("24.0.100.51.198.rpz-nsip.", ".")}, api.Trigger{Kind: api.NsIP, Prefix: api.Prefix{Addr: "\xc6\x33\x64\x00", Bits: 24}}, api.Action{Kind: api.Missing}},
		"drop":               {[]api.Record{cname("y.", "rpz-drop.")}, api.Trigger{Kind: api.QName, Name: "\x01y"}, api.Action{Kind: api.Drop}},
		"pass":               {[]api.Record{cname("y.", "rpz-passthru.")}, api.Trigger{Kind: api.QName, Name: "\x01y"}, api.Action{Kind: api.Pass}},
		"tcp":                {[]api.Record{cname("y.", "rpz-tcp-only.")}, api.Trigger{Kind: api.QName, Name: "\x01y"}, api.Action{Kind: api.Tcp}},
		"local": {[]api.Record{{Name: "\x01y\x03rpz", Type: api.A, TTL: 8, Data: "\x7f\x00\x00\x01"}}, api.Trigger{Kind: api.QName, Name: "\x01y"},
			api.Action{Kind: api.Local, Records: []api.Record{{Name: "\x01y\x03rpz", Type: api.A, TTL: 8, Data: "\x7f\x00\x00\x01"}}}},
	} {
		for _, tcp := range []bool{false, true} {
			w := policies(t, front.Config{}, c.rs...)
			q := ask(9, "y.", api.A)
			id := w.query(q, tcp)
			m := told(id, q.Question, rs...)
			var want []front.Packet
			if r, ok := reply.Of(q, m, c.action, tcp); ok {
				p := client(r)
				p.Tcp = tcp
				want = append(want, p)
			}
			sent(t, why, w.f.Answer(bytes(m), servers, hosts), want...)
			e := event.Event{Time: 1, Client: me, Name: "\x01y", Type: api.A, Trigger: c.trigger, Action: c.action.Kind}
			if got := w.f.Events(); !slices.Equal(got, []event.Event{e}) {
				t.Errorf("%s: %+v, want %+v", why, got, e)
			}
			safe := 0
			if reply.Changes(c.action, tcp) {
				safe = w.d.Last()
			}
			if w.d.Safe() != safe || w.d.Writes() != 1 || w.d.Last() == 0 {
				t.Errorf("%s, tcp %v: %d of %d bytes are safe", why, tcp, w.d.Safe(), w.d.Last())
			}
		}
	}
}

func TestLocalRecordsThatAreTooMany(t *testing.T) {
	var rs []api.Record
	for i := range 65 {
		rs = append(rs, api.Record{Name: "\x01y\x03rpz", Type: 99, Data: string(rune('a' + i))})
	}
	w := policies(t, front.Config{})
	got := w.f.Tick()
	for len(got) == 0 {
		got = w.f.Tick()
	}
	// the zone comes in parts, as a message has no more than 64 records
	s := at("\x03rpz", 6)
	answer := func(typ api.Type, rs ...api.Record) []byte {
		return bytes(api.Message{Header: api.Header{ID: decode(t, got[0].Bytes).Header.ID, Reply: true}, Question: api.Question{Name: "\x03rpz", Type: typ}, Answer: rs})
	}
	got = w.f.Transfer(0, answer(api.SOA, s))
	sent(t, "a part", w.f.Transfer(0, answer(api.IXFR, append([]api.Record{s}, rs[:60]...)...)))
	sent(t, "the rest", w.f.Transfer(0, answer(api.IXFR, append(slices.Clone(rs[60:]), s)...)))
	if all, _ := w.f.Zone(0); len(all) != 66 {
		t.Fatalf("%d records", len(all))
	}
	q := ask(9, "y.", 99)
	ps := w.f.Query(me, 5353, true, bytes(q))
	sent(t, "a reply that has no bytes", w.f.Answer(bytes(told(decode(t, ps[0].Bytes).Header.ID, q.Question)), nil, nil))
	if len(w.f.Events()) != 1 || w.f.Pending() != 0 {
		t.Error(w.f.Events())
	}
}

func TestEventsThatHaveNoBytes(t *testing.T) {
	w := policies(t, front.Config{}, cname("y.", "."))
	q := ask(9, "y.", api.A)
	addr := strings.Repeat("a", 17)
	sent(t, "a query", w.f.Query(addr, 1, false, bytes(q)), upstream(w.draw(), "y.", api.A))
	p := client(reply.Base(q, 3))
	p.Addr, p.Port = addr, 1
	sent(t, "an answer", w.f.Answer(bytes(told(w.number, q.Question)), nil, nil), p)
	if len(w.f.Events()) != 0 || w.d.Writes() != 0 {
		t.Error(w.f.Events())
	}
}

func TestTheJournalIsSyncedWithEarlierEvents(t *testing.T) {
	w := policies(t, front.Config{}, cname("p.", "rpz-passthru."), cname("d.", "rpz-drop."))
	asked := func(text string) {
		q := ask(9, text, api.A)
		w.f.Answer(bytes(told(w.query(q, false), q.Question)), nil, nil)
	}
	asked("p.")
	asked("p.")
	if w.d.Safe() != 0 {
		t.Error("what passes is synced")
	}
	asked("d.")
	if w.d.Safe() != w.d.Last() || w.d.Writes() != 3 {
		t.Error("what is dropped is not synced")
	}
	asked("p.")
	w.d.Crash(5)
	f := front.Of(front.Config{}, 1, w.d)
	if got := f.Events(); len(got) != 3 || got[0].Action != api.Pass || got[2].Action != api.Drop {
		t.Errorf("%+v", got)
	}
}

func TestZonesAreInOrder(t *testing.T) {
	w := begun(t, front.Config{Origins: []api.Name{"\x01a", "\x01b", "\x01c"}, Overs: []api.ActionKind{api.Disabled, api.Given}})
	w.f.Tick()
	ids := []uint16{w.draw(), w.draw(), w.draw()}
	for k, o := range []api.Name{"\x01a", "\x01b", "\x01c"} {
		w.load(k, ids[k], o, 5, api.Record{Name: "\x01y" + o, Type: api.CNAME, Data: string(parse(fmt.Sprintf("t%d.", k)))})
	}
	q := ask(9, "y.", api.A)
	id := w.query(q, false)
	want := reply.Base(q, 0)
	want.Answer = []api.Record{{Name: "\x01y", Type: api.CNAME, TTL: 60, Data: string(parse("t1."))}}
	sent(t, "the second zone", w.f.Answer(bytes(told(id, q.Question)), nil, nil), client(want))
	if got := w.f.Events(); len(got) != 1 || got[0].Zone != 1 {
		t.Errorf("%+v", got)
	}
}

// P27.4

func TestTransferOfNothing(t *testing.T) {
	w := begun(t, front.Config{Origins: []api.Name{"\x03rpz"}})
	w.f.Tick()
	id := w.draw()
	s := at("\x03rpz", 5)
	m := api.Message{Header: api.Header{ID: id, Reply: true}, Question: api.Question{Name: "\x03rpz", Type: api.AXFR}, Answer: []api.Record{s, s}}
	for _, k := range []int{-1, 1, 2, 32, math.MaxInt, math.MinInt} {
		sent(t, "no zone", w.f.Transfer(k, bytes(m)))
	}
	sent(t, "no message", w.f.Transfer(0, bytes(m)[:30]))
	sent(t, "nothing", w.f.Transfer(0, nil))
	if w.f.Ready() {
		t.Error("they have an effect")
	}
	w.load(0, id, "\x03rpz", 5)
	if !w.f.Ready() {
		t.Error("it is not ready")
	}
	w.query(ask(1, "x.", api.A), false) // no number was drawn for them
}

func TestNotify(t *testing.T) {
	notify := func(op int, q api.Question, rs ...api.Record) []byte {
		return bytes(api.Message{Header: api.Header{ID: 0x77, Opcode: op, Authoritative: true}, Question: q, Answer: rs, Size: 5000})
	}
	own := api.Question{Name: "\x03rpz", Type: api.SOA}
	base := api.Message{Header: api.Header{ID: 0x77, Reply: true, Opcode: 4, Available: true}, Question: own, Size: 4096}
	answered := front.Packet{To: front.Master, Bytes: bytes(base)}
	other := at("\x03rpz", 9)
	other.Name = "\x01x\x03rpz"
	text := at("\x03rpz", 9)
	text.Type = 99
	for why, c := range map[string]struct {
		b     []byte
		taken bool
		asked bool
	}{
		"a later serial":         {notify(4, own, at("\x03rpz", 6)), true, true},
		"the same serial":        {notify(4, own, at("\x03rpz", 5)), true, false},
		"no serial":              {notify(4, own), true, false},
		"another zone's serial":  {notify(4, own, other), true, false},
		"another type's":         {notify(4, own, text), true, false},
		"the second of two":      {notify(4, own, at("\x03rpz", 4), at("\x03rpz", 6)), true, true},
		"the first of two":       {notify(4, own, at("\x03rpz", 6), other, at("\x03rpz", 4)), true, true},
		"another operation":      {notify(0, own, at("\x03rpz", 6)), false, false},
		"another operation, 5":   {notify(5, own, at("\x03rpz", 6)), false, false},
		"another name":           {notify(4, api.Question{Name: "\x01q", Type: api.SOA}, at("\x03rpz", 6)), false, false},
		"another type's request": {notify(4, api.Question{Name: "\x03rpz", Type: api.AXFR}, at("\x03rpz", 6)), false, false},
	} {
		w := policies(t, front.Config{})
		if c.taken {
			sent(t, why, w.f.Transfer(0, c.b), answered)
		} else {
			sent(t, why, w.f.Transfer(0, c.b))
		}
		id := w.draw() // none was drawn for the notify
		if c.asked {
			sent(t, why+", tick", w.f.Tick(), request(0, id, "\x03rpz", api.SOA))
		} else {
			sent(t, why+", tick", w.f.Tick())
		}
	}
}

func TestNotifyOfTheZone(t *testing.T) {
	w := begun(t, front.Config{Origins: []api.Name{"\x01a", "\x01b"}})
	m := api.Message{Header: api.Header{ID: 3, Opcode: 4}, Question: api.Question{Name: "\x01b", Type: api.SOA}}
	sent(t, "another zone's", w.f.Transfer(0, bytes(m)))
	sent(t, "its own", w.f.Transfer(1, bytes(m)), front.Packet{To: front.Master, Zone: 1, Bytes: bytes(reply.Base(m, 0))})
}

func TestTransfer(t *testing.T) {
	w := begun(t, front.Config{Origins: []api.Name{"\x01o", "\x03rpz"}})
	sent(t, "the first tick", w.f.Tick(), request(0, w.draw(), "\x01o", api.AXFR), request(1, w.draw(), "\x03rpz", api.AXFR))
	first := next(7)
	w.load(1, w.number, "\x03rpz", 5, cname("x.", "."))
	w.load(0, first, "\x01o", 5)
	if a, ok := w.f.Wins(search.Facts{Name: "\x01x"}); !ok || a.Kind != api.Missing {
		t.Errorf("%+v, %v", a, ok)
	}
	for w.f.Now() < 20 {
		sent(t, "a tick", w.f.Tick())
		w.draw()
		w.draw()
	}
	one, two := w.draw(), w.draw()
	sent(t, "the tick at 21", w.f.Tick(), request(0, one, "\x01o", api.SOA), request(1, two, "\x03rpz", api.SOA))
	reply := func(id uint16, typ api.Type, rs ...api.Record) []byte {
		return bytes(api.Message{Header: api.Header{ID: id, Reply: true}, Question: api.Question{Name: "\x03rpz", Type: typ}, Answer: rs})
	}
	old, new := at("\x03rpz", 5), at("\x03rpz", 6)
	sent(t, "another number", w.f.Transfer(1, reply(one, api.SOA, new)))
	w.draw()
	id := w.draw()
	sent(t, "a later SOA", w.f.Transfer(1, reply(two, api.SOA, new)), request(1, id, "\x03rpz", api.IXFR, old))
	sent(t, "a part of the changes", w.f.Transfer(1, reply(id, api.IXFR, new, old, cname("x.", "."))))
	w.draw()
	if a, ok := w.f.Wins(search.Facts{Name: "\x01x"}); !ok || a.Kind != api.Missing {
		t.Errorf("%+v, %v", a, ok)
	}
	sent(t, "the rest of them", w.f.Transfer(1, reply(id, api.IXFR, new, cname("y.", "*."), new)))
	w.draw()
	if a, ok := w.f.Wins(search.Facts{Name: "\x01x"}); ok {
		t.Errorf("%+v, %v", a, ok)
	}
	if a, ok := w.f.Wins(search.Facts{Name: "\x01y"}); !ok || a.Kind != api.Empty {
		t.Errorf("%+v, %v", a, ok)
	}
	if rs, live := w.f.Zone(1); !live || !slices.Equal(rs, []api.Record{cname("y.", "*."), new}) {
		t.Errorf("%+v, %v", rs, live)
	}
	w.query(ask(1, "q.", api.A), false) // as many numbers were drawn
}

func TestTransferFails(t *testing.T) {
	w := policies(t, front.Config{}, cname("x.", "."))
	for w.f.Now() < 20 {
		w.f.Tick()
		w.draw()
	}
	id := w.draw()
	sent(t, "the tick at 21", w.f.Tick(), request(0, id, "\x03rpz", api.SOA))
	answer := func(id uint16, typ api.Type, code int, rs ...api.Record) []byte {
		return bytes(api.Message{Header: api.Header{ID: id, Reply: true, Code: code}, Question: api.Question{Name: "\x03rpz", Type: typ}, Answer: rs})
	}
	changes := w.draw()
	sent(t, "a later SOA", w.f.Transfer(0, answer(id, api.SOA, 0, at("\x03rpz", 9))), request(0, changes, "\x03rpz", api.IXFR, at("\x03rpz", 5)))
	all := w.draw()
	sent(t, "no changes", w.f.Transfer(0, answer(changes, api.IXFR, 4)), request(0, all, "\x03rpz", api.AXFR))
	sent(t, "no zone", w.f.Transfer(0, answer(all, api.AXFR, 5)))
	w.draw()
	for w.f.Now() < 27 {
		sent(t, "a tick", w.f.Tick())
		w.draw()
	}
	sent(t, "the tick at 28", w.f.Tick(), request(0, w.draw(), "\x03rpz", api.SOA))
	if a, ok := w.f.Wins(search.Facts{Name: "\x01x"}); !ok || a.Kind != api.Missing {
		t.Errorf("%+v, %v", a, ok)
	}
}

func TestAZoneThatIsOver(t *testing.T) {
	w := policies(t, front.Config{}, cname("x.", "."))
	facts := search.Facts{Name: "\x01x"}
	for w.f.Now() < 100 {
		w.f.Tick()
		w.draw()
	}
	if _, ok := w.f.Wins(facts); !ok {
		t.Error("at 100 it does not win")
	}
	var last []front.Packet
	for len(last) == 0 {
		last = w.f.Tick()
		if _, ok := w.f.Wins(facts); ok != (w.f.Now() < 101) {
			t.Errorf("at %d it wins: %v", w.f.Now(), ok)
		}
	}
	// it is live again as soon as its master says that it is as it was
	m := decode(t, last[0].Bytes)
	m.Header.Reply, m.Answer = true, []api.Record{at("\x03rpz", 5)}
	sent(t, "the same serial", w.f.Transfer(0, bytes(m)))
	if a, ok := w.f.Wins(facts); !ok || a.Kind != api.Missing {
		t.Errorf("%+v, %v", a, ok)
	}
	if _, live := w.f.Zone(0); !live {
		t.Error("it is not live")
	}
}

func TestAnOriginThatIsNoName(t *testing.T) {
	w := begun(t, front.Config{Origins: []api.Name{"no name", "\x03rpz"}})
	got := w.f.Tick()
	if len(got) == 0 {
		t.Fatal("no master is asked")
	}
	sent(t, "the tick", got[len(got)-1:], request(1, next(next(7)), "\x03rpz", api.AXFR))
}

// P27.5

func TestTick(t *testing.T) {
	w := policies(t, front.Config{Wait: 2})
	a, b, c := ask(1, "a.", api.A), ask(2, "b.", api.TXT), ask(3, "c.", api.A)
	c.Size = 700
	w.query(a, false)
	w.query(b, true)
	sent(t, "time 2", w.f.Tick())
	w.draw()
	third := w.query(c, false)
	p := client(reply.Base(b, 2))
	p.Tcp = true
	sent(t, "time 3", w.f.Tick(), client(reply.Base(a, 2)), p)
	w.draw()
	if w.f.Now() != 3 || w.f.Pending() != 1 {
		t.Error(w.f.Now(), w.f.Pending())
	}
	sent(t, "time 4", w.f.Tick(), client(reply.Base(c, 2)))
	w.draw()
	sent(t, "too late", w.f.Answer(bytes(told(third, c.Question)), nil, nil))
	sent(t, "time 5", w.f.Tick())
	if w.f.Now() != 5 || w.f.Pending() != 0 || len(w.f.Events()) != 0 {
		t.Error(w.f.Now(), w.f.Pending())
	}
}

func TestTickOfWaits(t *testing.T) {
	for wait, until := range map[int]int{math.MinInt: 1, -5: 1, 0: 1, 1: 1, 2: 2, 7: 7} {
		w := policies(t, front.Config{Wait: wait})
		q := ask(1, "a.", api.A)
		w.query(q, false)
		for n := 1; n < until; n++ {
			sent(t, "it waits", w.f.Tick())
		}
		sent(t, "it is over", w.f.Tick(), client(reply.Base(q, 2)))
	}
}

func TestTickAnswersAheadOfRequests(t *testing.T) {
	w := policies(t, front.Config{Wait: 20})
	q := ask(1, "a.", api.A)
	w.query(q, false)
	for w.f.Now() < 20 {
		sent(t, "it waits", w.f.Tick())
		w.draw()
	}
	sent(t, "time 21", w.f.Tick(), client(reply.Base(q, 2)), request(0, w.draw(), "\x03rpz", api.SOA))
}

func TestTheFirstTicks(t *testing.T) {
	w := begun(t, front.Config{Origins: []api.Name{"\x03rpz"}})
	for now := 1; now < 40; now++ {
		id := w.draw()
		if (now-1)%9 == 0 {
			sent(t, "a tick", w.f.Tick(), request(0, id, "\x03rpz", api.AXFR))
		} else {
			sent(t, "a tick", w.f.Tick())
		}
		if w.f.Now() != now || w.f.Ready() {
			t.Error(w.f.Now(), w.f.Ready())
		}
	}
}

func TestBytesAreNotKept(t *testing.T) {
	w := policies(t, front.Config{}, cname("y.", "."))
	q := ask(9, "y.", api.A)
	b := bytes(q)
	w.f.Query(me, 5353, false, b)
	id := w.draw()
	for i := range b {
		b[i] = 0xff
	}
	sent(t, "an answer", w.f.Answer(bytes(told(id, q.Question)), nil, nil), client(reply.Base(q, 3)))
	z := zone.Zone{}
	z, _ = w.f.Zone(0)
	z[0] = api.Record{}
	if rs, _ := w.f.Zone(0); rs[0] == (api.Record{}) {
		t.Error("the zone has changed")
	}
}
