package front

import (
	"bolter/api"
	"bolter/event"
	"bolter/message"
	"bolter/pending"
	"bolter/reply"
	"bolter/search"
)

// sender is from whom a query came.
type sender struct {
	addr string
	port int
	tcp  bool
}

// send is a packet to a client; none, if the message has no bytes within the limit.
func (s sender) send(m api.Message, limit int) []Packet {
	b, ok := message.Encode(m, limit)
	if !ok {
		return nil
	}
	return []Packet{{To: Client, Addr: s.addr, Port: s.port, Tcp: s.tcp, Bytes: b}}
}

// respond is a packet with the reply to a query.
func (s sender) respond(q, m api.Message) []Packet {
	return s.send(m, reply.Limit(q, s.tcp))
}

// Query takes a client's packet.
func (f *Front) Query(addr string, port int, tcp bool, b []byte) []Packet {
	from := sender{addr, port, tcp}
	q, err := message.Decode(b)
	switch {
	case err != nil:
		return from.refuse(b)
	case q.Header.Reply:
		return nil
	case q.Header.Opcode != api.Query:
		return from.respond(q, reply.Base(q, api.NotImp))
	case q.Question.Type == api.AXFR || q.Question.Type == api.IXFR:
		return from.respond(q, reply.Base(q, api.Refused))
	case !f.Ready():
		return from.respond(q, reply.Base(q, api.ServFail))
	}
	return f.forward(from, q)
}

// refuse is the reply to bytes that are no message, unless they look like a reply, which might be refused in turn.
func (s sender) refuse(b []byte) []Packet {
	id, ok := message.ID(b)
	if !ok || len(b) > 2 && b[2]&0x80 != 0 {
		return nil
	}
	return s.send(api.Message{Header: api.Header{ID: id, Reply: true, Code: api.FormErr}}, api.MaxUdp)
}

// forward has a query wait, and asks the upstream.
func (f *Front) forward(from sender, q api.Message) []Packet {
	e := pending.Entry{
		ID:     pending.Free(f.waiting, f.draw()),
		Query:  q,
		Client: from.addr,
		Port:   from.port,
		Tcp:    from.tcp,
		Until:  f.now + max(f.wait, 1),
	}
	waiting, err := pending.Add(f.waiting, e)
	if err != nil {
		return from.respond(q, reply.Base(q, api.ServFail))
	}
	f.waiting = waiting
	b, ok := message.Encode(api.Message{
		Header:   api.Header{ID: e.ID, Desired: true},
		Question: q.Question,
		Size:     api.MaxMessage,
	}, api.MaxMessage)
	if !ok {
		return nil
	}
	return []Packet{{To: Upstream, Bytes: b}}
}

// Answer takes an upstream's packet, and what is known of who serves the name: their names, and addresses.
func (f *Front) Answer(b []byte, servers []api.Name, hosts []string) []Packet {
	m, err := message.Decode(b)
	if err != nil || !m.Header.Reply {
		return nil
	}
	e, rest, ok := pending.Match(f.waiting, m.Header.ID, m.Question)
	if !ok {
		return nil
	}
	f.waiting = rest
	to := sender{e.Client, e.Port, e.Tcp}
	v, ok := f.engine.Decide(search.Facts{
		Client:  e.Client,
		Name:    e.Query.Question.Name,
		Answers: reply.Addresses(m.Answer),
		Servers: servers,
		Hosts:   hosts,
	})
	if !ok {
		return to.respond(e.Query, reply.Passed(e.Query, m))
	}
	f.record(e, v)
	told, ok := reply.Of(e.Query, m, v.Action, e.Tcp)
	if !ok {
		return nil
	}
	return to.respond(e.Query, told)
}

// record writes a decision to the journal, which is synced ahead of a reply that the decision changes.
func (f *Front) record(e pending.Entry, v search.Verdict) {
	b, ok := event.Encode(event.Event{
		Time:    f.now,
		Client:  e.Client,
		Name:    e.Query.Question.Name,
		Type:    e.Query.Question.Type,
		Zone:    v.Zone,
		Trigger: v.Trigger,
		Action:  v.Action.Kind,
	})
	if ok {
		f.journal.Write(b) // an event is never too long for a frame
	}
	if reply.Changes(v.Action, e.Tcp) {
		f.journal.Sync()
	}
}

// expire answers the queries that have waited too long.
func (f *Front) expire() []Packet {
	over, left := pending.Expire(f.waiting, f.now)
	f.waiting = left
	var out []Packet
	for _, e := range over {
		to := sender{e.Client, e.Port, e.Tcp}
		out = append(out, to.respond(e.Query, reply.Base(e.Query, api.ServFail))...)
	}
	return out
}
