package front

import (
	"bolter/api"
	"bolter/message"
	"bolter/reply"
	"bolter/soa"
	"bolter/transfer"
)

// toMaster is a packet to a zone's master; none, if the message has no bytes.
func toMaster(k int, m api.Message, tcp bool) []Packet {
	b, ok := message.Encode(m, api.MaxMessage)
	if !ok {
		return nil
	}
	return []Packet{{To: Master, Tcp: tcp, Zone: k, Bytes: b}}
}

// request is a packet with what a zone's master is asked.
func (f *Front) request(k int, r transfer.Request) []Packet {
	m := api.Message{
		Header:   api.Header{ID: r.ID},
		Question: api.Question{Name: f.transfers[k].Origin, Type: r.Type},
	}
	if r.Has {
		m.Authority = []api.Record{r.Since}
	}
	return toMaster(k, m, r.Type != api.SOA)
}

// Transfer takes a packet of a zone's master: an answer, or its word that the zone is a new one.
func (f *Front) Transfer(k int, b []byte) []Packet {
	m, err := message.Decode(b)
	if err != nil || !f.hasZone(k) {
		return nil
	}
	if m.Header.Reply {
		return f.answered(k, m)
	}
	return f.notified(k, m)
}

// notified takes a master's word of its zone's serial number.
func (f *Front) notified(k int, m api.Message) []Packet {
	t := f.transfers[k]
	if m.Header.Opcode != api.Notify || m.Question != (api.Question{Name: t.Origin, Type: api.SOA}) {
		return nil
	}
	for _, r := range m.Answer {
		if s, ok := soa.Of(r); ok && r.Name == t.Origin {
			t.Notify(f.now, s.Serial)
		}
	}
	return toMaster(k, reply.Base(m, api.NoError), false)
}

// answered takes a master's answer.
func (f *Front) answered(k int, m api.Message) []Packet {
	t := f.transfers[k]
	changed, next, ok := t.Take(f.now, m, f.draw())
	if changed {
		f.engine.Set(k, t.Zone)
	}
	f.engine.Live(k, t.Live(f.now))
	if !ok {
		return nil
	}
	return f.request(k, next)
}

// Tick has it be one later: queries that are over are answered SERVFAIL, masters are asked.
func (f *Front) Tick() []Packet {
	f.now++
	out := f.expire()
	for k, t := range f.transfers {
		f.engine.Live(k, t.Live(f.now))
		if r, ok := t.Tick(f.now, f.draw()); ok {
			out = append(out, f.request(k, r)...)
		}
	}
	return out
}
