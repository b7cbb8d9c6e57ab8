package front_test

import (
	"fmt"
	"reflect"
	"slices"
	"testing"

	"bolter/action"
	"bolter/api"
	"bolter/device"
	"bolter/event"
	"bolter/front"
	"bolter/message"
	"bolter/owner"
	"bolter/reply"
	"bolter/search"
	"bolter/soa"
	"bolter/transfer"
	"bolter/zone"
)

// draws are numbers, one after the other, the same ones each time.
type draws uint32

func (d *draws) below(n int) int {
	*d = *d*1664525 + 1013904223
	return int(*d>>9) % n
}

func oneOf[E any](d *draws, es ...E) E { return es[d.below(len(es))] }

// plain is a front end that searches all records, and keeps a list of what waits and one of what happened.
type plain struct {
	c      front.Config
	zones  []*transfer.Transfer
	waits  []waiting
	events []event.Event
	now    int
	number uint16
}

type waiting struct {
	id    uint16
	query api.Message
	to    front.Packet
	until int
}

func (p *plain) draw() uint16 {
	p.number = next(p.number)
	return p.number
}

func (p *plain) ready() bool {
	for _, z := range p.zones {
		if !z.Has {
			return false
		}
	}
	return true
}

func (p *plain) respond(to front.Packet, q, m api.Message) []front.Packet {
	b, ok := message.Encode(m, reply.Limit(q, to.Tcp))
	if !ok {
		return nil
	}
	to.Bytes = b
	return []front.Packet{to}
}

func (p *plain) query(addr string, port int, tcp bool, b []byte) []front.Packet {
	to := front.Packet{Addr: addr, Port: port, Tcp: tcp}
	q, err := message.Decode(b)
	if err != nil {
		if len(b) < 2 || len(b) > 2 && b[2] >= 128 {
			return nil
		}
		return p.respond(to, api.Message{}, api.Message{Header: api.Header{ID: uint16(b[0])<<8 + uint16(b[1]), Reply: true, Code: 1}})
	}
	if q.Header.Reply {
		return nil
	}
	if q.Header.Opcode != 0 {
		return p.respond(to, q, reply.Base(q, 4))
	}
	if q.Question.Type == 251 || q.Question.Type == 252 {
		return p.respond(to, q, reply.Base(q, 5))
	}
	if !p.ready() {
		return p.respond(to, q, reply.Base(q, 2))
	}
	id := p.draw()
	if len(p.waits) == 16 {
		return p.respond(to, q, reply.Base(q, 2))
	}
	for slices.ContainsFunc(p.waits, func(w waiting) bool { return w.id == id }) {
		id++
	}
	p.waits = append(p.waits, waiting{id, q, to, p.now + max(1, p.c.Wait)})
	m := api.Message{Header: api.Header{ID: id, Desired: true}, Question: q.Question, Size: 4096}
	return []front.Packet{{To: front.Upstream, Bytes: bytes(m)}}
}

func (p *plain) policies() []search.Policy {
	var out []search.Policy
	for k, z := range p.zones {
		over := api.Given
		if k < len(p.c.Overs) {
			over = p.c.Overs[k]
		}
		out = append(out, search.Policy{Origin: z.Origin, Zone: z.Zone, Live: z.Live(p.now), Over: over})
	}
	return out
}

func (p *plain) answer(b []byte, servers []api.Name, hosts []string) []front.Packet {
	m, err := message.Decode(b)
	if err != nil || !m.Header.Reply {
		return nil
	}
	at := slices.IndexFunc(p.waits, func(w waiting) bool { return w.id == m.Header.ID && w.query.Question == m.Question })
	if at < 0 {
		return nil
	}
	w := p.waits[at]
	p.waits = slices.Delete(p.waits, at, at+1)
	v, ok := search.Of(p.policies(), search.Facts{Client: w.to.Addr, Name: m.Question.Name, Answers: reply.Addresses(m.Answer), Servers: servers, Hosts: hosts})
	if !ok {
		return p.respond(w.to, w.query, reply.Passed(w.query, m))
	}
	e := event.Event{Time: p.now, Client: w.to.Addr, Name: m.Question.Name, Type: m.Question.Type, Zone: v.Zone, Trigger: v.Trigger, Action: v.Action.Kind}
	if event.May(e) {
		p.events = append(p.events, e)
	}
	r, ok := reply.Of(w.query, m, v.Action, w.to.Tcp)
	if !ok {
		return nil
	}
	return p.respond(w.to, w.query, r)
}

func (p *plain) request(k int, r transfer.Request) []front.Packet {
	var since []api.Record
	if r.Has {
		since = []api.Record{r.Since}
	}
	return []front.Packet{request(k, r.ID, p.zones[k].Origin, r.Type, since...)}
}

func (p *plain) transfer(k int, b []byte) []front.Packet {
	m, err := message.Decode(b)
	if err != nil || k < 0 || k >= len(p.zones) {
		return nil
	}
	z := p.zones[k]
	if m.Header.Reply {
		if _, r, ok := z.Take(p.now, m, p.draw()); ok {
			return p.request(k, r)
		}
		return nil
	}
	if m.Header.Opcode != 4 || m.Question.Type != api.SOA || m.Question.Name != z.Origin {
		return nil
	}
	for _, r := range m.Answer {
		if s, ok := soa.Of(r); ok && r.Name == z.Origin {
			z.Notify(p.now, s.Serial)
		}
	}
	return []front.Packet{{To: front.Master, Zone: k, Bytes: bytes(reply.Base(m, 0))}}
}

func (p *plain) tick() []front.Packet {
	p.now++
	var out []front.Packet
	var left []waiting
	for _, w := range p.waits {
		if w.until > p.now {
			left = append(left, w)
		} else {
			out = append(out, p.respond(w.to, w.query, reply.Base(w.query, 2))...)
		}
	}
	p.waits = left
	for k, z := range p.zones {
		if r, ok := z.Tick(p.now, p.draw()); ok {
			out = append(out, p.request(k, r)...)
		}
	}
	return out
}

// net is what is around a front end: masters with zones, and packets on their way.
type net struct {
	draws
	masters []zone.Zone
	old     []zone.Zone
	serials []uint32
	queries [][]byte       // on their way to the upstream
	asked   []front.Packet // on their way to masters
}

func (n *net) name() api.Name {
	return oneOf[api.Name](&n.draws, "", "\x01a", "\x01b", "\x01a\x01b", "\x01b\x01a", "\x01c\x01a\x01b", "\x01a\x01a\x01a")
}

func (n *net) addr() string {
	return oneOf(&n.draws, "\x0a\x00\x00\x01", "\x0a\x00\x00\x02", v4, "\xc0\x00\x02\x08", "\x20\x01\x00\x00\x00\x00\x00\x00\x00\x00\x00\x00\x00\x00\x00\x05")
}

func (n *net) trigger() api.Trigger {
	kind := api.TriggerKind(n.below(7))
	if kind == api.ClientIP || kind == api.AnswerIP || kind == api.NsIP {
		a := []byte(n.addr())
		a[len(a)-1] &= 0xf8
		return api.Trigger{Kind: kind, Prefix: api.Prefix{Addr: string(a), Bits: 8*len(a) - n.below(4)}}
	}
	return api.Trigger{Kind: kind, Name: n.name()}
}

// change has a master publish another zone.
func (n *net) change(k int, origin api.Name) {
	n.serials[k] += uint32(1 + n.below(3))
	d, _ := soa.Data(soa.Soa{Serial: n.serials[k], Refresh: uint32(n.below(12)), Retry: uint32(n.below(4)), Expire: uint32(5 + n.below(40))})
	z := zone.Zone{{Name: origin, Type: api.SOA, TTL: 1, Data: d}}
	for range n.below(8) {
		if own, ok := owner.Encode(n.trigger()); ok {
			r := api.Record{Name: own + origin, Type: api.CNAME, Data: string(oneOf[api.Name](&n.draws, "", "\x01*", "\x0crpz-passthru", "\x08rpz-drop", "\x0crpz-tcp-only", "\x02to", "\x01*\x02to"))}
			if n.below(4) == 0 {
				r.Type, r.Data = api.A, v4
			}
			z = append(z, r)
		}
	}
	slices.SortFunc(z, zone.Compare)
	n.old[k], n.masters[k] = n.masters[k], slices.Compact(z)
}

// serve is a master's answer to a packet, which may be wrong.
func (n *net) serve(p front.Packet) []byte {
	m, _ := message.Decode(p.Bytes)
	z := n.masters[p.Zone]
	s, _ := zone.Soa(z)
	m.Header.Reply = true
	var body []api.Record
	for _, r := range z {
		if r != s {
			body = append(body, r)
		}
	}
	switch since := m.Authority; {
	case m.Question.Type == api.SOA:
		m.Answer = []api.Record{s}
	case m.Question.Type == api.IXFR && n.below(2) == 0:
		m.Answer = []api.Record{s, since[0]}
		for _, r := range n.old[p.Zone] {
			if r.Type != api.SOA && !zone.Has(z, r) {
				m.Answer = append(m.Answer, r)
			}
		}
		m.Answer = append(m.Answer, s)
		for _, r := range body {
			if !zone.Has(n.old[p.Zone], r) {
				m.Answer = append(m.Answer, r)
			}
		}
		m.Answer = append(m.Answer, s)
	default:
		m.Answer = append(append([]api.Record{s}, body...), s)
	}
	m.Authority = nil
	switch n.below(12) {
	case 0:
		m.Header.Code = 5
	case 1:
		m.Header.ID++
	case 2:
		m.Answer = m.Answer[:len(m.Answer)-1]
	case 3:
		m.Header.Truncated = true
	}
	return bytes(m)
}

// word is a master's word that its zone is a new one.
func (n *net) word(k int, origin api.Name) []byte {
	s, _ := zone.Soa(n.masters[k])
	return bytes(api.Message{Header: api.Header{ID: 9, Opcode: 4}, Question: api.Question{Name: origin, Type: api.SOA}, Answer: []api.Record{s}})
}

// told is the upstream's answer to a query, which may be wrong.
func (n *net) told(b []byte) []byte {
	m, _ := message.Decode(b)
	m.Header.Reply, m.Header.Code, m.Size = true, n.below(4), 0
	for range n.below(3) {
		a := n.addr()
		m.Answer = append(m.Answer, api.Record{Name: m.Question.Name, Type: oneOf(&n.draws, api.A, api.AAAA, 99), Data: a})
		if !message.MayRecord(m.Answer[len(m.Answer)-1]) {
			m.Answer = m.Answer[:len(m.Answer)-1]
		}
	}
	switch n.below(15) {
	case 0:
		m.Header.ID += 3
	case 1:
		m.Question.Name = n.name()
	case 2:
		m.Header.Reply = false
	}
	return bytes(m)
}

// queried is a client's packet.
func (n *net) queried() []byte {
	m := api.Message{Header: api.Header{ID: uint16(n.below(99)), Desired: n.below(2) == 0}, Question: api.Question{Name: n.name(), Type: oneOf(&n.draws, api.A, api.A, api.TXT, api.AXFR)}, Size: n.below(3) * 600}
	if n.below(9) == 0 {
		m.Header.Opcode = 1 + n.below(5)
	}
	m.Header.Reply = n.below(15) == 0
	b := bytes(m)
	if n.below(15) == 0 {
		b = b[:n.below(len(b))]
	}
	return b
}

// alike holds a front end against the plain one.
func alike(t *testing.T, why string, f *front.Front, p *plain) {
	t.Helper()
	if f.Now() != p.now || f.Pending() != len(p.waits) || f.Ready() != p.ready() {
		t.Fatalf("%s: at %d there are %d that wait, ready %v; not %d, %d, %v", why, f.Now(), f.Pending(), f.Ready(), p.now, len(p.waits), p.ready())
	}
	if got := f.Events(); !slices.Equal(got, p.events) {
		t.Fatalf("%s: the events are %+v, not %+v", why, got, p.events)
	}
	for k, z := range p.zones {
		if rs, live := f.Zone(k); !slices.Equal(rs, z.Zone) || live != z.Live(p.now) {
			t.Fatalf("%s: zone %d is %+v, %v", why, k, rs, live)
		}
	}
}

// TestAsThePlainOne: all promises at once, for any packets in any order.
func TestAsThePlainOne(t *testing.T) {
	decided := 0
	for seed := range 60 {
		n := &net{draws: draws(seed)}
		c := front.Config{Origins: []api.Name{"\x03rpz", "\x01p", ""}[:1+n.below(3)], Overs: []api.ActionKind{oneOf(&n.draws, api.Given, api.Disabled, api.Drop)}, Wait: n.below(5)}
		p := &plain{c: c, number: uint16(seed * 1000)}
		n.masters, n.old, n.serials = make([]zone.Zone, 3), make([]zone.Zone, 3), make([]uint32, 3)
		for k, o := range c.Origins {
			p.zones = append(p.zones, transfer.Of(o))
			n.change(k, o)
		}
		f := front.Of(c, p.number, &device.Device{})
		for step := range 500 {
			why := fmt.Sprintf("seed %d, step %d", seed, step)
			var got, want []front.Packet
			k := n.below(len(c.Origins))
			switch x := n.below(20); {
			case x < 3:
				got, want = f.Tick(), p.tick()
			case x < 9:
				addr, tcp, b := n.addr(), n.below(3) == 0, n.queried()
				got, want = f.Query(addr, step, tcp, b), p.query(addr, step, tcp, b)
			case x < 14 && len(n.queries) > 0:
				at := n.below(len(n.queries))
				b, servers, hosts := n.told(n.queries[at]), []api.Name{n.name(), n.name()}[n.below(3):], []string{n.addr()}[n.below(2):]
				n.queries = slices.Delete(n.queries, at, at+1)
				got, want = f.Answer(b, servers, hosts), p.answer(b, servers, hosts)
			case x < 18 && len(n.asked) > 0:
				one := n.asked[0]
				n.asked = n.asked[1:]
				b := n.serve(one)
				got, want = f.Transfer(one.Zone, b), p.transfer(one.Zone, b)
			case x == 18:
				n.change(k, c.Origins[k])
				b := n.word(k, c.Origins[k])
				got, want = f.Transfer(k, b), p.transfer(k, b)
			}
			if len(got)+len(want) > 0 && !reflect.DeepEqual(got, want) {
				t.Fatalf("%s: %+v is sent, not %+v", why, got, want)
			}
			for _, one := range got {
				switch m, _ := message.Decode(one.Bytes); {
				case one.To == front.Upstream:
					n.queries = append(n.queries, one.Bytes)
				case one.To == front.Master && !m.Header.Reply:
					n.asked = append(n.asked, one)
				}
			}
			alike(t, why, f, p)
			facts := search.Facts{Client: n.addr(), Name: n.name(), Answers: []string{n.addr()}, Servers: []api.Name{n.name()}}
			a, ok := f.Wins(facts)
			if v, found := search.Of(p.policies(), facts); ok != found || !action.Same(a, v.Action) {
				t.Fatalf("%s: %+v wins, %v, not %+v, %v", why, a, ok, v, found)
			}
		}
		decided += len(p.events)
	}
	if decided < 500 {
		t.Errorf("only %d decisions", decided)
	}
}
