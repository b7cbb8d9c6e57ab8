package transfer_test

import (
	"math"
	"slices"
	"testing"

	"bolter/api"
	"bolter/soa"
	"bolter/transfer"
	"bolter/zone"
)

const origin = "\x03rpz"

// at is the origin's SOA of a serial number: refreshed after 20, tried again after 7, over after 100.
func at(serial uint32) api.Record {
	return timed(serial, 20, 7, 100)
}

func timed(serial, refresh, retry, expire uint32) api.Record {
	d, _ := soa.Data(soa.Soa{Master: "\x01m", Serial: serial, Refresh: refresh, Retry: retry, Expire: expire, Minimum: 3})
	return api.Record{Name: origin, Type: api.SOA, TTL: 60, Data: d}
}

func rec(n string) api.Record {
	return api.Record{Name: api.Name([]byte{byte(len(n))}) + api.Name(n) + origin, Type: api.CNAME, TTL: 60}
}

func list(rs ...api.Record) []api.Record { return rs }

var x, y, z = rec("x"), rec("y"), rec("z")

// answer is a master's answer.
func answer(id uint16, t api.Type, rs ...api.Record) api.Message {
	return api.Message{Header: api.Header{ID: id, Reply: true}, Question: api.Question{Name: origin, Type: t}, Answer: rs}
}

func request(id uint16, t api.Type) transfer.Request {
	return transfer.Request{ID: id, Type: t}
}

func changes(id uint16, since api.Record) transfer.Request {
	return transfer.Request{ID: id, Type: api.IXFR, Has: true, Since: since}
}

// asks holds what a call asks for against what it should.
func asks(t *testing.T, why string, got transfer.Request, ok bool, want transfer.Request) {
	t.Helper()
	if got != want || ok != (want != transfer.Request{}) {
		t.Errorf("%s: %+v, %v is asked for, not %+v", why, got, ok, want)
	}
}

// took holds what Take answers against what it should, and what is open then.
func took(t *testing.T, why string, x *transfer.Transfer, now int, m api.Message, id uint16, changed bool, next, open transfer.Request) {
	t.Helper()
	is, got, ok := x.Take(now, m, id)
	if is != changed {
		t.Errorf("%s: changed: %v", why, is)
	}
	asks(t, why, got, ok, next)
	opened(t, why, x, open)
}

func opened(t *testing.T, why string, x *transfer.Transfer, want transfer.Request) {
	t.Helper()
	got, ok := x.Open()
	asks(t, why+", open", got, ok, want)
}

func times(t *testing.T, why string, x *transfer.Transfer, has bool, next, over int) {
	t.Helper()
	if x.Has != has || x.Next != next || x.Over != over {
		t.Errorf("%s: has %v, next %d, over %d, want %v, %d, %d", why, x.Has, x.Next, x.Over, has, next, over)
	}
}

var nothing transfer.Request

// loaded is one that has a zone of serial 5 since the time 10: next at 30, over at 110.
func loaded(t *testing.T) *transfer.Transfer {
	t.Helper()
	f := transfer.Of(origin)
	f.Tick(10, 1)
	took(t, "loaded", f, 10, answer(1, api.AXFR, at(5), x, y, at(5)), 2, true, nothing, nothing)
	return f
}

// asking is one that has asked for the SOA at 30 by the number 3.
func asking(t *testing.T) *transfer.Transfer {
	t.Helper()
	f := loaded(t)
	got, ok := f.Tick(30, 3)
	asks(t, "asking", got, ok, request(3, api.SOA))
	return f
}

// changing is one that has asked for changes at 31 by the number 4.
func changing(t *testing.T) *transfer.Transfer {
	t.Helper()
	f := asking(t)
	took(t, "changing", f, 31, answer(3, api.SOA, at(6)), 4, false, changes(4, at(5)), changes(4, at(5)))
	return f
}

// P11.1

func TestOf(t *testing.T) {
	f := transfer.Of(origin)
	times(t, "a new one", f, false, 0, 0)
	if f.Origin != origin || len(f.Zone) != 0 {
		t.Errorf("%+v", f)
	}
	opened(t, "a new one", f, nothing)
	for _, now := range []int{math.MinInt, -1, 0, 1, math.MaxInt} {
		if f.Live(now) {
			t.Errorf("it is live at %d", now)
		}
	}
}

func TestLive(t *testing.T) {
	f := loaded(t)
	times(t, "loaded", f, true, 30, 110)
	for now, want := range map[int]bool{math.MinInt: true, 0: true, 10: true, 109: true, 110: false, 111: false, math.MaxInt: false} {
		if got := f.Live(now); got != want {
			t.Errorf("at %d it is live: %v", now, got)
		}
	}
	f.Has = false
	if f.Live(0) {
		t.Error("a zone that is not there is live")
	}
}

func TestTickOfTheExample(t *testing.T) {
	f := transfer.Of(origin)
	for now := range 30 {
		got, ok := f.Tick(now, uint16(100+now))
		want := nothing
		if now%9 == 0 {
			want = request(uint16(100+now), api.AXFR)
		}
		asks(t, "tick", got, ok, want)
		open := request(uint16(100+now-now%9), api.AXFR)
		if now%9 >= 4 {
			open = nothing
		}
		opened(t, "tick", f, open)
		if now%9 == 4 && f.Next != now+5 {
			t.Errorf("at %d the next is %d", now, f.Next)
		}
	}
}

func TestTickBeforeAndBehindNext(t *testing.T) {
	f := loaded(t)
	for _, now := range []int{11, 29} {
		got, ok := f.Tick(now, 9)
		asks(t, "too early", got, ok, nothing)
	}
	late := loaded(t)
	got, ok := late.Tick(1000, 9)
	asks(t, "late, and over", got, ok, request(9, api.SOA))
	if got, ok = f.Tick(30, 9); got != request(9, api.SOA) || !ok {
		t.Errorf("%+v, %v", got, ok)
	}
	times(t, "asked", f, true, 30, 110)
	got, ok = f.Tick(33, 10)
	asks(t, "asked already", got, ok, nothing)
	opened(t, "asked already", f, request(9, api.SOA))
	got, ok = f.Tick(34, 11)
	asks(t, "no answer", got, ok, nothing)
	opened(t, "no answer", f, nothing)
	times(t, "no answer", f, true, 41, 110)
	got, ok = f.Tick(40, 12)
	asks(t, "not yet again", got, ok, nothing)
	got, ok = f.Tick(41, 13)
	asks(t, "again", got, ok, request(13, api.SOA))
	got, ok = f.Tick(60, 14)
	asks(t, "no answer, found out late", got, ok, nothing)
	times(t, "no answer, found out late", f, true, 67, 110)
}

func TestDelaysAreOneAtLeast(t *testing.T) {
	f := transfer.Of(origin)
	f.Tick(10, 1)
	took(t, "no delays", f, 12, answer(1, api.AXFR, timed(5, 0, 0, 0), timed(5, 0, 0, 0)), 2, true, nothing, nothing)
	times(t, "no delays", f, true, 13, 12)
	if f.Live(12) {
		t.Error("it is live")
	}
	got, ok := f.Tick(13, 3)
	asks(t, "no delays", got, ok, request(3, api.SOA))
	got, ok = f.Tick(17, 4)
	asks(t, "no delays, no answer", got, ok, nothing)
	times(t, "no delays, no answer", f, true, 18, 12)
	got, ok = f.Tick(18, 5)
	asks(t, "a delay of one", got, ok, request(5, api.SOA))
	took(t, "a delay of one", f, 18, answer(5, api.SOA, timed(5, 0, 0, 0)), 6, false, nothing, nothing)
	times(t, "a delay of one", f, true, 19, 18)
}

func TestGreatDelays(t *testing.T) {
	f := transfer.Of(origin)
	f.Tick(10, 1)
	s := timed(5, math.MaxUint32, 1<<31, math.MaxUint32-1)
	took(t, "great delays", f, 12, answer(1, api.AXFR, s, s), 2, true, nothing, nothing)
	times(t, "great delays", f, true, 12+math.MaxUint32, 11+math.MaxUint32)
	f.Tick(f.Next, 3)
	f.Tick(f.Next+4, 3)
	times(t, "a great delay of another try", f, true, 16+math.MaxUint32+1<<31, 11+math.MaxUint32)
}

func TestNotify(t *testing.T) {
	for _, c := range []struct {
		serial, to uint32
		want       bool
	}{
		{5, 6, true}, {5, 5, false}, {5, 4, false}, {5, 0, false}, {5, 5 + 1<<31 - 1, true}, {5, 5 + 1<<31, false}, {math.MaxUint32, 3, true},
	} {
		f := transfer.Of(origin)
		f.Tick(10, 1)
		s := at(c.serial)
		f.Take(10, answer(1, api.AXFR, s, s), 2)
		next := 30
		if got := f.Notify(15, c.to); got != c.want {
			t.Errorf("Notify from %d to %d = %v", c.serial, c.to, got)
		}
		if c.want {
			next = 15
		}
		times(t, "notified", f, true, next, 110)
	}
}

func TestNotifyDoesNotPutOff(t *testing.T) {
	f := loaded(t)
	if !f.Notify(77, 6) {
		t.Error("it is not taken")
	}
	times(t, "later than next", f, true, 30, 110)
	f.Notify(-5, 6)
	times(t, "earlier", f, true, -5, 110)
}

func TestNotifyOfNoZone(t *testing.T) {
	for _, to := range []uint32{0, 1, 1 << 31, math.MaxUint32} {
		f := transfer.Of(origin)
		f.Tick(0, 1)
		f.Tick(4, 2)
		times(t, "no answer", f, false, 9, 0)
		if !f.Notify(6, to) {
			t.Errorf("%d is not taken", to)
		}
		times(t, "notified", f, false, 6, 0)
		got, ok := f.Tick(6, 3)
		asks(t, "notified", got, ok, request(3, api.AXFR))
	}
}

func TestNotifyLeavesARequestOpen(t *testing.T) {
	f := asking(t)
	if !f.Notify(31, 9) {
		t.Error("it is not taken")
	}
	opened(t, "notified", f, request(3, api.SOA))
	times(t, "notified", f, true, 30, 110)
	got, ok := f.Tick(32, 8)
	asks(t, "notified", got, ok, nothing)
}

// P11.2

func TestTakeOfWhatIsNotAskedFor(t *testing.T) {
	good := answer(3, api.SOA, at(6))
	for why, change := range map[string]func(m *api.Message){
		"no reply":               func(m *api.Message) { m.Header.Reply = false },
		"another number":         func(m *api.Message) { m.Header.ID = 4 },
		"another name":           func(m *api.Message) { m.Question.Name = "\x01x" + origin },
		"another type":           func(m *api.Message) { m.Question.Type = api.AXFR },
		"no reply, and a code":   func(m *api.Message) { m.Header.Reply, m.Header.Code = false, 2 },
		"another type, and cut":  func(m *api.Message) { m.Question.Type, m.Header.Truncated = api.IXFR, true },
		"another number, a code": func(m *api.Message) { m.Header.ID, m.Header.Code = 0, 5 },
	} {
		f, m := asking(t), good
		change(&m)
		took(t, why, f, 31, m, 4, false, nothing, request(3, api.SOA))
		times(t, why, f, true, 30, 110)
		// it is open as long as it was
		f.Tick(33, 9)
		opened(t, why, f, request(3, api.SOA))
		f.Tick(34, 9)
		opened(t, why, f, nothing)
	}
	f := loaded(t)
	took(t, "nothing is open", f, 11, answer(1, api.AXFR, at(6), z, at(6)), 4, false, nothing, nothing)
	took(t, "nothing is open, the zero question", f, 11, api.Message{Header: api.Header{Reply: true}, Question: api.Question{Name: origin}}, 4, false, nothing, nothing)
	times(t, "nothing is open", f, true, 30, 110)
	fresh := transfer.Of(origin)
	took(t, "nothing was asked for", fresh, 0, answer(0, api.AXFR, at(6), at(6)), 4, false, nothing, nothing)
	times(t, "nothing was asked for", fresh, false, 0, 0)
}

func TestTakeOfOtherFlags(t *testing.T) {
	f := asking(t)
	m := answer(3, api.SOA, at(6))
	m.Header.Opcode, m.Header.Authoritative, m.Header.Desired, m.Header.Available = 7, true, true, true
	m.Authority, m.Extra, m.Size = list(x), list(y), 99
	took(t, "other flags", f, 31, m, 4, false, changes(4, at(5)), changes(4, at(5)))
}

func TestTakeOfAFailure(t *testing.T) {
	codes := map[string]func(m *api.Message){
		"code 1":             func(m *api.Message) { m.Header.Code = 1 },
		"code 5":             func(m *api.Message) { m.Header.Code = 5 },
		"code 15":            func(m *api.Message) { m.Header.Code = 15 },
		"truncated":          func(m *api.Message) { m.Header.Truncated = true },
		"truncated, code 3":  func(m *api.Message) { m.Header.Truncated, m.Header.Code = true, 3 },
		"a code that is odd": func(m *api.Message) { m.Header.Code = -1 },
	}
	for why, change := range codes {
		first := transfer.Of(origin)
		first.Tick(0, 1)
		m := answer(1, api.AXFR, at(5), x, at(5))
		change(&m)
		took(t, why+", all", first, 2, m, 9, false, nothing, nothing)
		times(t, why+", all", first, false, 7, 0)

		f := asking(t)
		m = answer(3, api.SOA, at(6))
		change(&m)
		took(t, why+", the SOA", f, 32, m, 9, false, nothing, nothing)
		times(t, why+", the SOA", f, true, 39, 110)

		f = changing(t)
		m = answer(4, api.IXFR, at(6), at(5), at(6), at(6))
		change(&m)
		took(t, why+", changes", f, 33, m, 9, false, request(9, api.AXFR), request(9, api.AXFR))
		times(t, why+", changes", f, true, 30, 110)
		if !slices.Equal(f.Zone, zone.Zone{x, y, at(5)}) {
			t.Errorf("%s: the zone is %+v", why, f.Zone)
		}
		// what is asked for instead is open for as long again
		f.Tick(36, 7)
		opened(t, why+", all instead", f, request(9, api.AXFR))
		f.Tick(37, 7)
		opened(t, why+", all instead, too long", f, nothing)
		times(t, why+", all instead, too long", f, true, 44, 110)
	}
}

// P11.3

func TestTakeOfTheSoa(t *testing.T) {
	for _, c := range []struct {
		serial uint32
		later  bool
	}{
		{6, true}, {5, false}, {4, false}, {5 + 1<<31 - 1, true}, {5 + 1<<31, false}, {5 + 1<<31 + 1, false}, {math.MaxUint32, false},
	} {
		f := asking(t)
		// the times of an SOA that is not taken over do not count
		m := answer(3, api.SOA, timed(c.serial, 1000, 2000, 3000))
		if c.later {
			took(t, "later", f, 32, m, 4, false, changes(4, at(5)), changes(4, at(5)))
			times(t, "later", f, true, 30, 110)
			f.Tick(35, 9)
			opened(t, "later", f, changes(4, at(5)))
			f.Tick(36, 9)
			opened(t, "later, too long", f, nothing)
			times(t, "later, too long", f, true, 43, 110)
		} else {
			took(t, "not later", f, 32, m, 4, false, nothing, nothing)
			times(t, "not later", f, true, 52, 132)
		}
		if !slices.Equal(f.Zone, zone.Zone{x, y, at(5)}) {
			t.Errorf("the zone is %+v", f.Zone)
		}
	}
}

func TestTakeOfNoSoa(t *testing.T) {
	other, bad := at(6), at(6)
	other.Name = "\x01x" + origin
	bad.Data += "x"
	plain := at(6)
	plain.Type = api.TXT
	for why, rs := range map[string][]api.Record{
		"nothing":               nil,
		"another record":        list(x),
		"another name's SOA":    list(other),
		"an SOA that may not":   list(bad),
		"its data in a TXT":     list(plain),
		"an SOA and more":       list(at(6), x),
		"more and an SOA":       list(x, at(6)),
		"an SOA twice":          list(at(6), at(6)),
		"an SOA, not later, +1": list(at(5), at(5)),
	} {
		f := asking(t)
		took(t, why, f, 33, answer(3, api.SOA, rs...), 4, false, nothing, nothing)
		times(t, why, f, true, 40, 110)
	}
}

func TestAZoneThatWasOverIsRenewed(t *testing.T) {
	f := loaded(t)
	f.Tick(500, 3)
	if f.Live(500) {
		t.Fatal("it is live")
	}
	took(t, "renewed", f, 501, answer(3, api.SOA, at(5)), 4, false, nothing, nothing)
	times(t, "renewed", f, true, 521, 601)
	if !f.Live(501) || !f.Live(600) || f.Live(601) {
		t.Error("it is not live then")
	}
}

// P11.4

func TestTakeOfAll(t *testing.T) {
	f := transfer.Of(origin)
	f.Tick(0, 1)
	took(t, "the first part", f, 3, answer(1, api.AXFR, at(5), z), 2, false, nothing, request(1, api.AXFR))
	times(t, "the first part", f, false, 0, 0)
	f.Tick(6, 9)
	took(t, "a part of nothing", f, 6, answer(1, api.AXFR), 2, false, nothing, request(1, api.AXFR))
	f.Tick(9, 9)
	took(t, "another part", f, 9, answer(1, api.AXFR, x), 2, false, nothing, request(1, api.AXFR))
	if len(f.Zone) != 0 || f.Live(9) {
		t.Error("there is a zone already")
	}
	f.Tick(12, 9)
	took(t, "the last part", f, 12, answer(1, api.AXFR, y, at(5)), 2, true, nothing, nothing)
	times(t, "the last part", f, true, 32, 112)
	if !slices.Equal(f.Zone, zone.Zone{x, y, z, at(5)}) {
		t.Errorf("the zone is %+v", f.Zone)
	}
}

func TestPartsThatComeTooLate(t *testing.T) {
	f := transfer.Of(origin)
	f.Tick(0, 1)
	f.Take(3, answer(1, api.AXFR, at(5), z), 2)
	f.Tick(7, 9)
	opened(t, "too late", f, nothing)
	times(t, "too late", f, false, 12, 0)
	f.Tick(12, 1)
	// nothing is left of what came ahead: the last part alone is no zone
	took(t, "the last part alone", f, 13, answer(1, api.AXFR, x, y, at(5)), 2, false, nothing, request(1, api.AXFR))
	took(t, "and its first record again", f, 13, answer(1, api.AXFR, x), 2, false, nothing, nothing)
	times(t, "no zone", f, false, 18, 0)
	if f.Has || len(f.Zone) != 0 {
		t.Errorf("the zone is %+v", f.Zone)
	}
}

func TestTakeOfAllThatIsNoZone(t *testing.T) {
	alien := api.Record{Name: "\x01q", Type: api.CNAME}
	for why, rs := range map[string][]api.Record{
		"an SOA alone":          list(at(5)),
		"an SOA of 0 alone":     list(at(0)),
		"deltas from nothing":   list(at(6), at(0), at(6), x, at(6)),
		"an SOA between":        list(at(5), at(5), x, at(5)),
		"an alien":              list(at(5), alien, at(5)),
		"a record twice":        list(at(5), x, x, at(5)),
		"deltas":                list(at(6), at(5), x, at(6), at(6)),
		"a record, and it last": list(x, at(5), y, x, x),
	} {
		f := transfer.Of(origin)
		f.Tick(0, 1)
		took(t, why, f, 3, answer(1, api.AXFR, rs...), 2, false, nothing, nothing)
		times(t, why, f, false, 8, 0)
		if len(f.Zone) != 0 {
			t.Errorf("%s: the zone is %+v", why, f.Zone)
		}
	}
}

func TestTakeOfTheSameZoneAgain(t *testing.T) {
	f := changing(t)
	took(t, "changes fail", f, 32, answer(4, api.IXFR, at(7)), 5, false, request(5, api.AXFR), request(5, api.AXFR))
	took(t, "the same zone", f, 33, answer(5, api.AXFR, at(5), y, x, at(5)), 6, false, nothing, nothing)
	times(t, "the same zone", f, true, 53, 133)
}

func TestTakeOfAllInsteadOfChanges(t *testing.T) {
	f := changing(t)
	// what came of the changes is no part of the zone
	took(t, "changes begin", f, 32, answer(4, api.IXFR, at(6), at(5)), 5, false, nothing, changes(4, at(5)))
	bad := answer(4, api.IXFR)
	bad.Header.Code = 2
	took(t, "changes fail", f, 33, bad, 5, false, request(5, api.AXFR), request(5, api.AXFR))
	took(t, "all", f, 34, answer(5, api.AXFR, at(6), z, at(6)), 6, true, nothing, nothing)
	times(t, "all", f, true, 54, 134)
	if !slices.Equal(f.Zone, zone.Zone{z, at(6)}) {
		t.Errorf("the zone is %+v", f.Zone)
	}
}

func TestAllInsteadOfChangesMayFail(t *testing.T) {
	f := changing(t)
	f.Take(32, answer(4, api.IXFR, at(7)), 5)
	took(t, "all fails", f, 33, answer(5, api.AXFR, at(6)), 6, false, nothing, nothing)
	times(t, "all fails", f, true, 40, 110)
	got, ok := f.Tick(40, 7)
	asks(t, "again", got, ok, request(7, api.SOA))
}

func TestChangesAreNotAll(t *testing.T) {
	for why, rs := range map[string][]api.Record{
		"nothing new": list(at(5)),
		"a delta":     list(at(6), at(5), x, at(6), z, at(6)),
	} {
		f := changing(t)
		f.Take(32, answer(4, api.IXFR, at(7)), 5)
		took(t, why, f, 33, answer(5, api.AXFR, rs...), 6, false, nothing, nothing)
		times(t, why, f, true, 40, 110)
		if !slices.Equal(f.Zone, zone.Zone{x, y, at(5)}) {
			t.Errorf("%s: the zone is %+v", why, f.Zone)
		}
	}
}

func TestTimesWithoutAnSoa(t *testing.T) {
	f := transfer.Of(origin)
	f.Has = true
	got, ok := f.Tick(0, 1)
	asks(t, "without an SOA", got, ok, request(1, api.SOA))
	took(t, "without an SOA", f, 2, answer(1, api.SOA, at(0)), 2, false, nothing, nothing)
	times(t, "without an SOA", f, true, 7, 2)
	if f.Notify(3, 0) || !f.Notify(3, 1) {
		t.Error("its serial number is not 0")
	}
}

func TestTakeOfChanges(t *testing.T) {
	for why, c := range map[string]struct {
		rs      []api.Record
		want    zone.Zone
		changed bool
		next    int
		over    int
	}{
		"a delta":            {list(at(6), at(5), x, at(6), z, at(6)), zone.Zone{y, z, at(6)}, true, 52, 132},
		"two deltas":         {list(at(7), at(5), x, at(6), z, at(6), z, at(7), x, at(7)), zone.Zone{x, y, at(7)}, true, 52, 132},
		"a delta of the SOA": {list(at(6), at(5), at(6), at(6)), zone.Zone{x, y, at(6)}, true, 52, 132},
		"other times":        {list(timed(6, 1, 2, 3), at(5), timed(6, 1, 2, 3), timed(6, 1, 2, 3)), zone.Zone{x, y, timed(6, 1, 2, 3)}, true, 33, 35},
		"all":                {list(at(6), z, x, at(6)), zone.Zone{x, z, at(6)}, true, 52, 132},
		"all of an old one":  {list(at(2), z, at(2)), zone.Zone{z, at(2)}, true, 52, 132},
		"all, as it is":      {list(at(5), x, y, at(5)), zone.Zone{x, y, at(5)}, false, 52, 132},
		"nothing new":        {list(at(5)), zone.Zone{x, y, at(5)}, false, 52, 132},
		"nothing new, as ..": {list(timed(5, 1, 2, 3)), zone.Zone{x, y, at(5)}, false, 52, 132},
		"deltas to and fro":  {list(at(5), at(5), x, at(6), at(6), at(5), x, at(5)), zone.Zone{x, y, at(5)}, false, 52, 132},
	} {
		f := changing(t)
		took(t, why, f, 32, answer(4, api.IXFR, c.rs...), 5, c.changed, nothing, nothing)
		times(t, why, f, true, c.next, c.over)
		if !slices.Equal(f.Zone, c.want) {
			t.Errorf("%s: the zone is %+v", why, f.Zone)
		}
	}
}

func TestTakeOfChangesInParts(t *testing.T) {
	f := changing(t)
	took(t, "the first part", f, 34, answer(4, api.IXFR, at(6), at(5)), 5, false, nothing, changes(4, at(5)))
	f.Tick(37, 9)
	took(t, "the second part", f, 37, answer(4, api.IXFR, x, at(6)), 5, false, nothing, changes(4, at(5)))
	f.Tick(40, 9)
	took(t, "the last part", f, 40, answer(4, api.IXFR, z, at(6)), 5, true, nothing, nothing)
	times(t, "the last part", f, true, 60, 140)
	if !slices.Equal(f.Zone, zone.Zone{y, z, at(6)}) {
		t.Errorf("the zone is %+v", f.Zone)
	}
}

func TestTakeOfChangesThatAreNone(t *testing.T) {
	for why, rs := range map[string][]api.Record{
		"another serial alone":  list(at(7)),
		"deltas from another":   list(at(7), at(6), at(7), at(7)),
		"one is missing":        list(at(6), at(5), z, at(6), at(6)),
		"one is there":          list(at(6), at(5), at(6), x, at(6)),
		"no transfer":           list(at(6), api.Record{Name: "\x01q", Type: api.CNAME}, at(6)),
		"a record twice in all": list(at(6), z, z, at(6)),
		"an SOA of other data":  list(timed(6, 1, 1, 1), timed(5, 1, 1, 1), timed(6, 1, 1, 1), timed(6, 1, 1, 1)),
	} {
		f := changing(t)
		took(t, why, f, 32, answer(4, api.IXFR, rs...), 5, false, request(5, api.AXFR), request(5, api.AXFR))
		times(t, why, f, true, 30, 110)
		if !slices.Equal(f.Zone, zone.Zone{x, y, at(5)}) {
			t.Errorf("%s: the zone is %+v", why, f.Zone)
		}
	}
}

func TestTakeOfTooMany(t *testing.T) {
	many := slices.Repeat(list(x), 1022)
	f := transfer.Of(origin)
	f.Tick(0, 1)
	took(t, "1023", f, 1, answer(1, api.AXFR, append(list(at(5)), many...)...), 2, false, nothing, request(1, api.AXFR))
	took(t, "1024", f, 1, answer(1, api.AXFR, x), 2, false, nothing, request(1, api.AXFR))
	took(t, "1025", f, 1, answer(1, api.AXFR, x), 2, false, nothing, nothing)
	times(t, "1025", f, false, 6, 0)

	for why, last := range map[string][]api.Record{"1024 of changes": list(at(261)), "1025 of changes": list(z, at(261))} {
		f := changing(t)
		rs := list(at(261))
		for n := uint32(5); n < 260; n++ {
			rs = append(rs, at(n), z, at(n+1), z)
		}
		rs[2], rs[len(rs)-1] = x, x
		rs = append(append(rs, at(260), at(261)), last...)
		if why == "1024 of changes" {
			took(t, why, f, 32, answer(4, api.IXFR, rs...), 5, true, nothing, nothing)
			if len(rs) != 1024 || !slices.Equal(f.Zone, zone.Zone{x, y, at(261)}) {
				t.Errorf("of %d records the zone is %+v", len(rs), f.Zone)
			}
		} else {
			took(t, why, f, 32, answer(4, api.IXFR, rs...), 5, false, request(5, api.AXFR), request(5, api.AXFR))
		}
	}
}

func TestTheAnswerIsNotKept(t *testing.T) {
	f := transfer.Of(origin)
	f.Tick(0, 1)
	first, last := list(at(5), x), list(y, at(5))
	f.Take(1, answer(1, api.AXFR, first...), 2)
	first[0], first[1] = z, z
	f.Take(1, answer(1, api.AXFR, last...), 2)
	last[0] = z
	if !slices.Equal(f.Zone, zone.Zone{x, y, at(5)}) {
		t.Errorf("the zone is %+v", f.Zone)
	}
}
