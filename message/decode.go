package message

import (
	"bolter/api"
	"bolter/num"
	"bolter/point"
	"bolter/rdata"
)

// Decode is the message of bytes; ErrForm, if they are none's.
func Decode(b []byte) (api.Message, error) {
	if len(b) > api.MaxMessage {
		return api.Message{}, api.ErrForm
	}
	r := &reader{msg: string(b), fits: true}
	m := r.message()
	if !r.fits || r.at != len(r.msg) {
		return api.Message{}, api.ErrForm
	}
	return m, nil
}

// reader goes through a message; fits turns false for good where it is not of the form.
type reader struct {
	msg  string
	at   int
	fits bool
}

func (r *reader) check(ok bool) {
	r.fits = r.fits && ok
}

func (r *reader) number() uint16 {
	n, ok := num.Get16(r.msg, r.at)
	r.check(ok)
	r.at += 2
	return n
}

func (r *reader) long() uint32 {
	n, ok := num.Get32(r.msg, r.at)
	r.check(ok)
	r.at += 4
	return n
}

func (r *reader) name() api.Name {
	n, behind, ok := point.Read(r.msg, r.at)
	r.check(ok)
	r.at = behind
	return n
}

// data is what stands behind its length.
func (r *reader) data(t api.Type) string {
	size := int(r.number())
	d, ok := rdata.Read(r.msg, r.at, size, t)
	r.check(ok)
	r.at += size
	return d
}

func (r *reader) message() api.Message {
	m := api.Message{Header: r.header()}
	r.check(r.number() == 1)
	answers, authorities, extras := int(r.number()), int(r.number()), int(r.number())
	m.Question = api.Question{Name: r.name(), Type: api.Type(r.number())}
	r.check(r.number() == class)
	m.Answer = r.part(answers)
	m.Authority = r.part(authorities)
	m.Extra, m.Size = r.extra(extras)
	return m
}

func (r *reader) header() api.Header {
	id, n := r.number(), r.number()
	r.check(n>>4&7 == 0)
	middle := num.Flags(n>>7, 4)
	return api.Header{
		ID:            id,
		Reply:         n>>15 == 1,
		Opcode:        int(n >> 11 & 15),
		Authoritative: middle[0],
		Truncated:     middle[1],
		Desired:       middle[2],
		Available:     middle[3],
		Code:          int(n & 15),
	}
}

// part is so many records, none of which is one for the size.
func (r *reader) part(many int) []api.Record {
	rs, size := r.extra(many)
	r.check(size == 0)
	return rs
}

// extra is so many records, without the one for the size, and that size.
func (r *reader) extra(many int) ([]api.Record, int) {
	var rs []api.Record
	size := 0
	for range many {
		if !r.fits {
			break
		}
		one, of := r.record()
		if one.Type == api.OPT {
			r.check(size == 0 && of != 0 && one == api.Record{Type: api.OPT})
			size = int(of)
			continue
		}
		r.check(of == class)
		rs = append(rs, one)
	}
	r.check(len(rs) <= api.MaxPart)
	return rs, size
}

// record is a record, and its class.
func (r *reader) record() (api.Record, uint16) {
	n := r.name()
	t := api.Type(r.number())
	of := r.number()
	ttl := r.long()
	return api.Record{Name: n, Type: t, TTL: ttl, Data: r.data(t)}, of
}
