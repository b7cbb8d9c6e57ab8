package table_test

import (
	"math"
	"strconv"
	"strings"
	"testing"

	"bolter/table"
)

// P15.1

func TestHash(t *testing.T) {
	for _, c := range []struct {
		key   string
		slots int
		want  int
	}{
		{"", 8, 1},
		{"", 1000, 17},
		{"", 17, 0},
		{"", 1, 0},
		{"", 0, 0},
		{"", -1, 0},
		{"a", 1000, 624},
		{"a", 1 << 20, 17*31 + 97},
		{"ab", 1 << 20, (17*31+97)*31 + 98},
		{"ba", 1 << 20, (17*31+98)*31 + 97},
		{"\x00", 1 << 20, 527},
		{"\xff", 1 << 20, 527 + 255},
		{"a", 624, 0},
		{"a", 625, 624},
		{"a", 0, 0},
		{"a", -8, 0},
		{"a", math.MinInt, 0},
		{"a", math.MaxInt, 624},
		{"aaaaaaaa", math.MaxInt, 2854087792},
		{"aaaaaaaa", 1 << 32, 2854087792},
		{"aaaaaaaa", 1 << 31, 2854087792 - 1<<31},
		{"aaaaaaaa", 1000003, 2854087792 % 1000003},
	} {
		want := c.want
		if strings.HasPrefix(c.key, "aaaa") { // worked out the long way
			h := uint64(17)
			for _, x := range []byte(c.key) {
				h = (31*h + uint64(x)) % (1 << 32)
			}
			want = int(h % uint64(c.slots))
		}
		if got := table.Hash(c.key, c.slots); got != want {
			t.Errorf("Hash(%q, %d) = %d, want %d", c.key, c.slots, got, want)
		}
	}
}

// P15.2, P15.3

// model is a table beside a map, and the largest number of words so far.
type model struct {
	t       *testing.T
	table   table.Table
	words   map[string]int
	largest int
}

func newModel(t *testing.T) *model { return &model{t: t, words: map[string]int{}} }

func (m *model) check(why string) {
	m.t.Helper()
	if got := m.table.Len(); got != len(m.words) {
		m.t.Fatalf("%s: Len = %d, want %d", why, got, len(m.words))
	}
	m.largest = max(m.largest, len(m.words))
	slots, used := m.table.Slots()
	if 2*used > slots || used < len(m.words) {
		m.t.Fatalf("%s: %d of %d slots are not empty, of %d words", why, used, slots, len(m.words))
	}
	if m.largest == 0 && slots != 0 || m.largest > 0 && slots < 8 || slots > max(8, 8*m.largest) {
		m.t.Fatalf("%s: %d slots, of %d words at most", why, slots, m.largest)
	}
}

func (m *model) put(key string, value int) {
	m.t.Helper()
	_, has := m.words[key]
	if got := m.table.Put(key, value); got == has {
		m.t.Fatalf("Put(%q, %d) = %v", key, value, got)
	}
	m.words[key] = value
	m.check("Put")
	m.get(key)
}

func (m *model) get(key string) {
	m.t.Helper()
	want, has := m.words[key]
	if got, ok := m.table.Get(key); got != want || ok != has {
		m.t.Fatalf("Get(%q) = %d, %v, want %d, %v", key, got, ok, want, has)
	}
}

func (m *model) del(key string) {
	m.t.Helper()
	_, has := m.words[key]
	if got := m.table.Del(key); got != has {
		m.t.Fatalf("Del(%q) = %v", key, got)
	}
	delete(m.words, key)
	m.check("Del")
	m.get(key)
}

func TestTheZeroTable(t *testing.T) {
	m := newModel(t)
	m.check("zero")
	m.get("")
	m.get("a")
	m.del("")
	m.del("a")
	if slots, used := m.table.Slots(); slots != 0 || used != 0 {
		t.Errorf("%d, %d", slots, used)
	}
}

func TestWords(t *testing.T) {
	m := newModel(t)
	m.put("a", 1)
	m.put("a", 2)
	m.put("", 7)
	m.put("b", 0)
	m.put("c", -5)
	m.put("d", math.MinInt)
	m.put("a\x00", math.MaxInt)
	for _, key := range []string{"", "a", "b", "c", "d", "a\x00", "e", "aa", "A", "\x00"} {
		m.get(key)
	}
	m.del("a")
	m.del("a")
	m.del("x")
	m.put("a", 9)
	m.del("")
	for _, key := range []string{"", "a", "b", "c", "d", "a\x00"} {
		m.get(key)
	}
}

func TestAWordThatWasTakenAwayLeavesItsSlot(t *testing.T) {
	m := newModel(t)
	m.put("a", 1)
	m.put("b", 2)
	m.del("a")
	if _, used := m.table.Slots(); used != 2 {
		t.Errorf("%d slots are not empty", used)
	}
	m.del("b")
	if _, used := m.table.Slots(); used != 2 {
		t.Errorf("%d slots are not empty", used)
	}
}

// alike are words of the same hash.
func alike(many int) []string {
	out := []string{""}
	for len(out) < many {
		var next []string
		for _, s := range out {
			next = append(next, s+"Aa", s+"BB")
		}
		out = next
	}
	return out[:many]
}

func TestWordsOfTheSameHash(t *testing.T) {
	m := newModel(t)
	words := alike(64)
	for i, w := range words {
		if table.Hash(w, math.MaxInt) != table.Hash(words[0], math.MaxInt) {
			t.Fatal("the hashes differ")
		}
		m.put(w, i)
	}
	for i, w := range words {
		m.get(w)
		if i%3 == 0 {
			m.del(w)
		}
	}
	// what stands behind a slot whose word is gone is found, and not put twice
	for i, w := range words {
		m.get(w)
		if i%3 != 0 {
			m.put(w, -i)
		}
	}
	for i, w := range words {
		m.put(w, 2*i)
	}
	for _, w := range words {
		m.del(w)
	}
	for _, w := range words {
		m.get(w)
	}
}

func TestWordsAtTheLastSlot(t *testing.T) {
	// The search goes on at the first slot: words of the last slot of 8, of 16, and so on.
	for slots := 8; slots <= 64; slots *= 2 {
		m := newModel(t)
		for i := 0; len(m.words) < slots/2; i++ {
			if w := strconv.Itoa(i); table.Hash(w, slots) == slots-1 {
				m.put(w, i)
			}
		}
		for w := range m.words {
			m.get(w)
		}
		for i := range 100 {
			m.get("x" + strconv.Itoa(i))
		}
	}
}

func TestManyWords(t *testing.T) {
	m := newModel(t)
	for i := range 5000 {
		m.put("w"+strconv.Itoa(i), i)
	}
	for i := range 5000 {
		m.get("w" + strconv.Itoa(i))
		if i%2 == 0 {
			m.del("w" + strconv.Itoa(i))
		}
	}
	for i := range 6000 {
		m.get("w" + strconv.Itoa(i))
	}
}

func TestAWordThatComesAndGoes(t *testing.T) {
	// The slots do not grow by words that are gone.
	m := newModel(t)
	for i := range 10000 {
		m.put("w"+strconv.Itoa(i), i)
		m.del("w" + strconv.Itoa(i))
	}
	m = newModel(t)
	m.put("stays", 1)
	m.put("too", 2)
	for i := range 10000 {
		m.put("w"+strconv.Itoa(i%7), i)
		m.del("w" + strconv.Itoa(i%7))
		m.get("stays")
		m.get("too")
	}
}

func TestAnySteps(t *testing.T) {
	m := newModel(t)
	x := uint32(7)
	words := append(alike(16), "a", "b", "c", "d", "e", "f", "g", "h", "i", "j")
	for i := range 50000 {
		x = x*1664525 + 1013904223
		w := words[int(x>>16)%len(words)]
		switch x >> 30 {
		case 0:
			m.del(w)
		case 1:
			m.get(w)
		default:
			if x>>29&1 == 0 || i%1000 < 300 {
				m.put(w, i)
			} else {
				m.del(w)
			}
		}
	}
}
