package pending_test

import (
	"errors"
	"math"
	"reflect"
	"slices"
	"testing"

	"bolter/api"
	"bolter/pending"
)

func rec(n string) api.Record {
	return api.Record{Name: api.Name([]byte{byte(len(n))}) + api.Name(n), Type: api.A, TTL: 9, Data: "abcd"}
}

// entry is one that is over at a time, with all there is.
func entry(id uint16, until int) pending.Entry {
	return pending.Entry{
		ID: id,
		Query: api.Message{
			Header:   api.Header{ID: 100 + id, Opcode: 3, Desired: true},
			Question: api.Question{Name: "\x01q", Type: api.A},
			Answer:   []api.Record{rec("a")}, Authority: []api.Record{rec("b")}, Extra: []api.Record{rec("c")},
			Size: 77,
		},
		Client: "abcd", Port: int(id) + 1000, Tcp: id%2 == 1, Until: until,
	}
}

// table is one of entries of some numbers, over one after the other.
func table(ids ...uint16) pending.Table {
	var t pending.Table
	for i, id := range ids {
		t = append(t, entry(id, 10+i))
	}
	return t
}

// same holds lists of entries against each other; lists without any are alike.
func same(a, b []pending.Entry) bool {
	return len(a) == 0 && len(b) == 0 || reflect.DeepEqual([]pending.Entry(a), []pending.Entry(b))
}

var question = api.Question{Name: "\x01q", Type: api.A}

// P26.1

func TestAdd(t *testing.T) {
	var ids []uint16
	for n := range 16 {
		got, err := pending.Add(table(ids...), entry(uint16(n), 10+n))
		ids = append(ids, uint16(n))
		if err != nil || !same(got, table(ids...)) {
			t.Fatalf("with %d entries: %+v, %v", n, got, err)
		}
		for _, id := range ids {
			if n < 15 {
				if got, err := pending.Add(table(ids...), entry(id, 99)); !errors.Is(err, api.ErrTwice) || len(got) != 0 {
					t.Errorf("%d again: %+v, %v", id, got, err)
				}
			}
		}
	}
	for _, id := range []uint16{0, 15, 16, 65535} { // full goes ahead of twice
		if got, err := pending.Add(table(ids...), entry(id, 99)); !errors.Is(err, api.ErrFull) || len(got) != 0 {
			t.Errorf("%d beyond 16: %+v, %v", id, got, err)
		}
	}
	if got, err := pending.Add(nil, entry(0, 0)); err != nil || !same(got, pending.Table{entry(0, 0)}) {
		t.Errorf("%+v, %v", got, err)
	}
}

func TestAddOfTheSameQuestion(t *testing.T) {
	// the number alone counts
	e := entry(5, 3)
	e.ID = 6
	if got, err := pending.Add(table(5), e); err != nil || len(got) != 2 || !reflect.DeepEqual(got[1], e) {
		t.Errorf("%+v, %v", got, err)
	}
}

func TestMatch(t *testing.T) {
	for i, id := range []uint16{7, 0, 65535} {
		got, rest, ok := pending.Match(table(7, 0, 65535), id, question)
		want := table(7, 0, 65535)
		if !ok || !reflect.DeepEqual(got, want[i]) || !same(rest, slices.Delete(want, i, i+1)) {
			t.Errorf("%d: %+v, %+v, %v", id, got, rest, ok)
		}
	}
	if got, rest, ok := pending.Match(table(7), 7, question); !ok || got.ID != 7 || len(rest) != 0 {
		t.Errorf("%+v, %+v, %v", got, rest, ok)
	}
	for why, c := range map[string]struct {
		t  pending.Table
		id uint16
		q  api.Question
	}{
		"no entries":        {nil, 0, api.Question{}},
		"another number":    {table(7, 8), 9, question},
		"the query's own":   {table(7, 8), 107, question},
		"another name":      {table(7, 8), 7, api.Question{Name: "\x01r", Type: api.A}},
		"another type":      {table(7, 8), 7, api.Question{Name: "\x01q", Type: api.AAAA}},
		"no question":       {table(7, 8), 7, api.Question{}},
		"the number 0":      {table(7, 8), 0, question},
		"the name in great": {table(7, 8), 7, api.Question{Name: "\x01Q", Type: api.A}},
	} {
		if got, rest, ok := pending.Match(c.t, c.id, c.q); !reflect.DeepEqual(got, pending.Entry{}) || len(rest) != 0 || ok {
			t.Errorf("%s: %+v, %+v, %v", why, got, rest, ok)
		}
	}
}

func TestMatchOfTheFirst(t *testing.T) {
	// tables made by Add have no number twice; of others the first entry is taken
	two := table(7, 7, 7)
	two[0].Query.Question.Type = api.TXT
	got, rest, ok := pending.Match(two, 7, question)
	if !ok || got.Until != 11 || len(rest) != 2 || rest[0].Until != 10 || rest[1].Until != 12 {
		t.Errorf("%+v, %+v, %v", got, rest, ok)
	}
}

func TestExpire(t *testing.T) {
	all := pending.Table{entry(1, 20), entry(2, 10), entry(3, 30), entry(4, 10), entry(5, math.MinInt), entry(6, math.MaxInt)}
	for now, over := range map[int][]uint16{
		math.MinInt: {5}, -1: {5}, 9: {5}, 10: {2, 4, 5}, 11: {2, 4, 5}, 19: {2, 4, 5}, 20: {1, 2, 4, 5}, 29: {1, 2, 4, 5}, 30: {1, 2, 3, 4, 5}, math.MaxInt: {1, 2, 3, 4, 5, 6},
	} {
		var gone, left []pending.Entry
		for _, e := range all {
			if slices.Contains(over, e.ID) {
				gone = append(gone, e)
			} else {
				left = append(left, e)
			}
		}
		if a, b := pending.Expire(all, now); !same(a, gone) || !same(b, left) {
			t.Errorf("at %d: %+v, %+v", now, a, b)
		}
	}
	if a, b := pending.Expire(nil, 5); len(a) != 0 || len(b) != 0 {
		t.Errorf("%+v, %+v", a, b)
	}
}

func TestFree(t *testing.T) {
	for _, c := range []struct {
		ids      []uint16
		id, want uint16
	}{
		{nil, 0, 0},
		{nil, 7, 7},
		{nil, 65535, 65535},
		{[]uint16{65535, 0}, 65535, 1},
		{[]uint16{0, 65535}, 65534, 65534},
		{[]uint16{5}, 5, 6},
		{[]uint16{5}, 4, 4},
		{[]uint16{5}, 6, 6},
		{[]uint16{7, 5, 6}, 5, 8},
		{[]uint16{7, 5}, 5, 6},
		{[]uint16{0, 1, 2}, 0, 3},
		{[]uint16{65533, 65534, 65535}, 65533, 0},
	} {
		if got := pending.Free(table(c.ids...), c.id); got != c.want {
			t.Errorf("Free(%d, %d) = %d, want %d", c.ids, c.id, got, c.want)
		}
	}
}

func TestFreeOfAllNumbers(t *testing.T) {
	all := make(pending.Table, 1<<16)
	for i := range all {
		all[i].ID = uint16(i * 3) // each number once
	}
	for _, id := range []uint16{0, 1, 77, 65535} {
		if got := pending.Free(all, id); got != 0 {
			t.Errorf("of none that is free from %d on Free is %d", id, got)
		}
	}
	one := all[100].ID
	for _, id := range []uint16{0, one - 1, one, one + 1, 65535} {
		if got := pending.Free(slices.Delete(slices.Clone(all), 100, 101), id); got != one {
			t.Errorf("of %d alone that is free from %d on Free is %d", one, id, got)
		}
	}
}

func TestNothingIsShared(t *testing.T) {
	spoil := func(es ...pending.Entry) {
		for _, e := range es {
			for _, part := range [][]api.Record{e.Query.Answer, e.Query.Authority, e.Query.Extra} {
				part[0] = rec("spoiled")
			}
		}
	}
	in, e := slices.Grow(table(1, 2, 3), 10), entry(4, 13)
	added, _ := pending.Add(in, e)
	again, _ := pending.Add(in, entry(5, 14))
	if added[3].ID != 4 || again[3].ID != 5 {
		t.Error("tables are laid over each other")
	}
	spoil(added...)
	one, rest, _ := pending.Match(in, 2, question)
	spoil(append(rest, one)...)
	gone, left := pending.Expire(in, 11)
	spoil(append(gone, left...)...)
	rest[0].ID, left[0].ID = 99, 99
	if !same(in, table(1, 2, 3)) || !reflect.DeepEqual(e, entry(4, 13)) {
		t.Errorf("the entries handed in have changed")
	}
}
