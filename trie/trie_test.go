package trie_test

import (
	"math"
	"strings"
	"testing"

	"bolter/trie"
)

// model is a trie beside a map.
type model struct {
	t     *testing.T
	trie  trie.Trie
	words map[string]int
}

func newModel(t *testing.T) *model { return &model{t: t, words: map[string]int{}} }

// nodes is how many words have a number, or have words of both kinds that go on behind them.
func (m *model) nodes() int {
	needed := map[string]bool{}
	for a := range m.words {
		needed[a] = true
		for b := range m.words {
			n := 0
			for n < len(a) && n < len(b) && a[n] == b[n] {
				n++
			}
			needed[a[:n]] = true
		}
	}
	return len(needed)
}

func (m *model) check(why string) {
	m.t.Helper()
	if got := m.trie.Len(); got != len(m.words) {
		m.t.Fatalf("%s: Len = %d, want %d", why, got, len(m.words))
	}
	if got := m.trie.Nodes(); got != m.nodes() {
		m.t.Fatalf("%s: %d nodes, want %d, of %v", why, got, m.nodes(), m.words)
	}
}

func (m *model) put(key string, value int) {
	m.t.Helper()
	_, has := m.words[key]
	if got := m.trie.Put(key, value); got == has {
		m.t.Fatalf("Put(%q, %d) = %v", key, value, got)
	}
	m.words[key] = value
	m.check("Put " + key)
	m.get(key)
}

func (m *model) del(key string) {
	m.t.Helper()
	_, has := m.words[key]
	if got := m.trie.Del(key); got != has {
		m.t.Fatalf("Del(%q) = %v", key, got)
	}
	delete(m.words, key)
	m.check("Del " + key)
	m.get(key)
}

func (m *model) get(key string) {
	m.t.Helper()
	want, has := m.words[key]
	if got, ok := m.trie.Get(key); got != want || ok != has {
		m.t.Fatalf("Get(%q) = %d, %v, want %d, %v", key, got, ok, want, has)
	}
	value, size, found := 0, 0, false
	for n := range len(key) + 1 {
		if v, ok := m.words[key[:n]]; ok {
			value, size, found = v, n, true
		}
	}
	if v, n, ok := m.trie.Longest(key); v != value || n != size || ok != found {
		m.t.Fatalf("Longest(%q) = %d, %d, %v, want %d, %d, %v", key, v, n, ok, value, size, found)
	}
}

// words are all words of up to so many signs.
func words(size int) []string {
	out := []string{""}
	for i := 0; len(out[i]) < size; i++ {
		out = append(out, out[i]+"0", out[i]+"1")
	}
	return out
}

// P16.1

func TestMay(t *testing.T) {
	for key, want := range map[string]bool{
		"": true, "0": true, "1": true, "0110": true, strings.Repeat("01", 64): true, strings.Repeat("0", 128): true, strings.Repeat("1", 127): true,
		strings.Repeat("0", 129): false, strings.Repeat("1", 1000): false,
		"2": false, "012": false, "021": false, "201": false, "/": false, "0/": false, "\x00": false, "\x01": false, " ": false, "01 ": false, "0\x001": false, "a": false, "é": false, "-1": false,
	} {
		if got := trie.May(key); got != want {
			t.Errorf("May(%q) = %v", key, got)
		}
	}
}

func TestMayOfEachByte(t *testing.T) {
	for c := range 256 {
		want := c == '0' || c == '1'
		for _, key := range []string{string([]byte{byte(c)}), string([]byte{'0', byte(c), '1'})} {
			if got := trie.May(key); got != want {
				t.Errorf("May(%q) = %v", key, got)
			}
		}
	}
}

func TestTheZeroTrie(t *testing.T) {
	m := newModel(t)
	m.check("zero")
	for _, key := range []string{"", "0", "1", "0101"} {
		m.get(key)
		m.del(key)
	}
}

func TestWordsThatMayNotBe(t *testing.T) {
	m := newModel(t)
	m.put("", 5)
	m.put("01", 6)
	m.put(strings.Repeat("0", 128), 7)
	for _, key := range []string{"2", "012", "01 ", "/", "a", "\x00", "0a1", strings.Repeat("0", 129), strings.Repeat("01", 500)} {
		if m.trie.Put(key, 9) {
			t.Errorf("Put(%q) is true", key)
		}
		m.check("Put of " + key)
		if v, ok := m.trie.Get(key); v != 0 || ok {
			t.Errorf("Get(%q) = %d, %v", key, v, ok)
		}
		if v, n, ok := m.trie.Longest(key); v != 0 || n != 0 || ok {
			t.Errorf("Longest(%q) = %d, %d, %v", key, v, n, ok)
		}
		if m.trie.Del(key) {
			t.Errorf("Del(%q) is true", key)
		}
		m.check("Del of " + key)
	}
}

// P16.2

func TestTheExample(t *testing.T) {
	m := newModel(t)
	m.put("1", 5)
	m.put("101", 6)
	if v, n, ok := m.trie.Longest("1011"); v != 6 || n != 3 || !ok {
		t.Error(v, n, ok)
	}
	if v, n, ok := m.trie.Longest("11"); v != 5 || n != 1 || !ok {
		t.Error(v, n, ok)
	}
	if v, n, ok := m.trie.Longest("0"); v != 0 || n != 0 || ok {
		t.Error(v, n, ok)
	}
	if got := m.trie.Nodes(); got != 2 {
		t.Error(got)
	}
}

func TestNodesPartAndJoin(t *testing.T) {
	m := newModel(t)
	for i, step := range []struct {
		key   string
		nodes int
	}{
		{"0101", 1}, {"0100", 3}, {"00", 5}, {"010", 5}, {"", 6}, {"1", 7}, {"0", 7}, {"01011", 8},
	} {
		m.put(step.key, i)
		if got := m.trie.Nodes(); got != step.nodes {
			t.Errorf("behind Put(%q) there are %d nodes, want %d", step.key, got, step.nodes)
		}
		for _, w := range words(6) {
			m.get(w)
		}
	}
	for _, step := range []struct {
		key   string
		nodes int
	}{
		{"010", 8}, {"0101", 7}, {"0", 7}, {"", 7}, {"1", 5}, {"0100", 3}, {"00", 1}, {"01011", 0},
	} {
		m.del(step.key)
		if got := m.trie.Nodes(); got != step.nodes {
			t.Errorf("behind Del(%q) there are %d nodes, want %d", step.key, got, step.nodes)
		}
		for _, w := range words(6) {
			m.get(w)
		}
	}
}

func TestOtherNumbers(t *testing.T) {
	m := newModel(t)
	for _, value := range []int{0, -1, math.MaxInt, math.MinInt, 7} {
		for _, key := range []string{"", "1", "10", "0"} {
			m.put(key, value)
		}
	}
}

func TestTheLongestWords(t *testing.T) {
	m := newModel(t)
	long := strings.Repeat("01", 64)
	for n := range 129 {
		m.put(long[:n], n)
	}
	for n := range 129 {
		m.get(long[:n])
		m.get(long[:n] + strings.Repeat("1", 128-n))
		m.get(long[:n] + strings.Repeat("0", 128-n))
	}
	for n := 0; n < 129; n += 2 {
		m.del(long[:n])
	}
	for n := range 129 {
		m.get(long[:n])
	}
	m.put(long[:127]+"0", 1000)
	m.put(long, 1001)
	m.get(long[:127] + "0")
	m.get(long)
	m.del(long)
	m.get(long)
}

func TestAnySteps(t *testing.T) {
	for _, size := range []int{3, 5} {
		m := newModel(t)
		all := words(size)
		x := uint32(size)
		for i := range 3000 {
			x = x*1664525 + 1013904223
			w := all[int(x>>12)%len(all)]
			switch {
			case x>>31 == 0:
				m.put(w, i)
			case x>>30&1 == 0:
				m.del(w)
			default:
				m.get(w)
			}
		}
	}
}
