package owner

import (
	"slices"
	"strconv"

	"bolter/api"
	"bolter/prefix"
)

const (
	zeros = "zz" // stands for words that are 0
	words = 8    // of an address of sixteen bytes
)

// Prefix are a prefix's labels; nothing of what is none.
func Prefix(p api.Prefix) []string {
	if !prefix.May(p) {
		return nil
	}
	ls := byteLabels(p.Addr)
	if len(p.Addr) == 2*words {
		ls = wordLabels(p.Addr)
	}
	ls = append(ls, strconv.Itoa(p.Bits))
	slices.Reverse(ls)
	return ls
}

// byteLabels are the bytes of an address, the first one first.
func byteLabels(a string) []string {
	var ls []string
	for i := range len(a) {
		ls = append(ls, strconv.Itoa(int(a[i])))
	}
	return ls
}

// wordLabels are the words of an address, the first one first, the longest run of zeros being one.
func wordLabels(a string) []string {
	var ls []string
	begin, end := longestRun(a)
	for i := range words {
		switch {
		case i < begin || i >= end:
			ls = append(ls, strconv.FormatUint(uint64(word(a, i)), 16))
		case i == begin:
			ls = append(ls, zeros)
		}
	}
	return ls
}

func word(a string, i int) uint16 {
	return uint16(a[2*i])<<8 | uint16(a[2*i+1])
}

// longestRun is where the first one of the longest runs of two or more words that are 0 begins and ends; both alike, if there is none.
func longestRun(a string) (int, int) {
	begin, end := 0, 0
	for i := 0; i < words; i++ {
		k := i
		for k < words && word(a, k) == 0 {
			k++
		}
		if k-i >= 2 && k-i > end-begin {
			begin, end = i, k
		}
	}
	return begin, end
}

// Address is the prefix whose labels these are; false, if they are none's, as Prefix has them.
func Address(ls []string) (api.Prefix, bool) {
	if len(ls) < 2 || len(ls) > 1+words {
		return api.Prefix{}, false
	}
	bits, err := strconv.Atoi(ls[0])
	if err != nil {
		return api.Prefix{}, false
	}
	parts := slices.Clone(ls[1:])
	slices.Reverse(parts)
	a := wordBytes(parts)
	if len(parts) == 4 && !slices.Contains(parts, zeros) {
		a = plainBytes(parts)
	}
	// Labels that Prefix would not have, and those that are no numbers, fail here.
	p := api.Prefix{Addr: a, Bits: bits}
	if !slices.Equal(Prefix(p), ls) {
		return api.Prefix{}, false
	}
	return p, true
}

// plainBytes are the bytes of decimal numbers.
func plainBytes(parts []string) string {
	var out []byte
	for _, s := range parts {
		n, _ := strconv.ParseUint(s, 10, 8)
		out = append(out, byte(n))
	}
	return string(out)
}

// wordBytes are the bytes of words; zeros stand for all that are wanting.
func wordBytes(parts []string) string {
	var out []byte
	for _, s := range parts {
		if s == zeros {
			out = append(out, make([]byte, 2*(words+1-len(parts)))...)
			continue
		}
		n, _ := strconv.ParseUint(s, 16, 16)
		out = append(out, byte(n>>8), byte(n))
	}
	return string(out)
}
