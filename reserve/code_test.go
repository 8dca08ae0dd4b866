package reserve_test

import (
	"math"
	"math/bits"
	"math/rand"
	"slices"
	"strings"
	"testing"

	"reserve/api"
	"reserve/reserve"
)

// allNumbers is how many numbers of symbols there are.
const allNumbers = api.MaxBlock + api.MaxSpare

// allSymbols chooses for each place a polynomial of degree below k and tells its values at all numbers, symbol behind
// symbol: so it needs neither Encode nor an inverse.
func allSymbols(r *rand.Rand, k int, size int) string {
	symbols := make([]byte, allNumbers*size)
	for place := range size {
		factors := make([]byte, k)
		r.Read(factors)
		for number := range allNumbers {
			value := byte(0)
			for i := k - 1; i >= 0; i-- {
				value = slowMul(value, byte(number)) ^ factors[i]
			}
			symbols[number*size+place] = value
		}
	}
	return string(symbols)
}

// pick tells the symbols of these numbers, one behind the other.
func pick(symbols string, numbers []int, size int) string {
	picked := ""
	for _, number := range numbers {
		picked += symbols[number*size : (number+1)*size]
	}
	return picked
}

func wantEncode(t *testing.T, data string, size int, spare int, want string, wantErr api.Errno) {
	t.Helper()
	if s, e := reserve.Encode(data, size, spare); s != want || e != wantErr {
		t.Errorf("Encode(%q, %d, %d) = %q, %d, want %q, %d", data, size, spare, s, e, want, wantErr)
	}
}

func wantDecode(t *testing.T, numbers []int, symbols string, size int, want string, wantErr api.Errno) {
	t.Helper()
	if s, e := reserve.Decode(numbers, symbols, size); s != want || e != wantErr {
		t.Errorf("Decode(%v, %q, %d) = %q, %d, want %q, %d", numbers, symbols, size, s, e, want, wantErr)
	}
}

func TestP4Examples(t *testing.T) {
	wantEncode(t, "\x05\x09", 1, 2, "\x1d\x11", api.OK)
	wantEncode(t, "\x05\x09", 1, 1, "\x1d", api.OK)
	wantEncode(t, "abc", 3, 2, "abcabc", api.OK)
	wantEncode(t, "\x05a\x09a", 2, 2, "\x1da\x11a", api.OK)
}

func TestP4EverySizeBlockAndSpare(t *testing.T) {
	r := rand.New(rand.NewSource(4))
	for size := 1; size <= api.MaxSize; size++ {
		for k := 1; k <= api.MaxBlock; k++ {
			symbols := allSymbols(r, k, size)
			for spare := 0; spare <= api.MaxSpare; spare++ {
				wantEncode(t, symbols[:k*size], size, spare, symbols[k*size:(k+spare)*size], api.OK)
			}
		}
	}
}

func TestP4NoSpare(t *testing.T) {
	wantEncode(t, "a", 1, 0, "", api.OK)
	wantEncode(t, strings.Repeat("a", api.MaxBlock*api.MaxSize), api.MaxSize, 0, "", api.OK)
}

func TestP4ErrSize(t *testing.T) {
	for _, size := range []int{0, -1, api.MaxSize + 1, 256, 257, math.MinInt, math.MaxInt, 1 << 32, 1<<32 + 1} {
		wantEncode(t, "ab", size, 1, "", api.ErrSize)
		wantEncode(t, strings.Repeat("a", api.MaxSize+1), size, 1, "", api.ErrSize)
		wantEncode(t, "", size, 1, "", api.ErrSize)
		wantEncode(t, "ab", size, -1, "", api.ErrSize)
		wantEncode(t, "", size, api.MaxSpare+1, "", api.ErrSize)
	}
}

func TestP4ErrBlock(t *testing.T) {
	for _, spare := range []int{0, 1, api.MaxSpare, -1, api.MaxSpare + 1, math.MinInt, math.MaxInt} {
		for size := 1; size <= api.MaxSize; size++ {
			wantEncode(t, "", size, spare, "", api.ErrBlock)
			wantEncode(t, strings.Repeat("a", (api.MaxBlock+1)*size), size, spare, "", api.ErrBlock)
			wantEncode(t, strings.Repeat("a", 300*size), size, spare, "", api.ErrBlock)
		}
		for size := 2; size <= api.MaxSize; size++ {
			wantEncode(t, strings.Repeat("a", size-1), size, spare, "", api.ErrBlock)
			wantEncode(t, strings.Repeat("a", size+1), size, spare, "", api.ErrBlock)
			wantEncode(t, strings.Repeat("a", api.MaxBlock*size+1), size, spare, "", api.ErrBlock)
		}
	}
}

func TestP4ErrSpare(t *testing.T) {
	for _, spare := range []int{-1, api.MaxSpare + 1, 256, 257, math.MinInt, math.MaxInt, 1 << 32} {
		wantEncode(t, "a", 1, spare, "", api.ErrSpare)
		wantEncode(t, "abcdefgh", 1, spare, "", api.ErrSpare)
		wantEncode(t, strings.Repeat("a", api.MaxBlock*api.MaxSize), api.MaxSize, spare, "", api.ErrSpare)
	}
}

func TestP5Examples(t *testing.T) {
	wantDecode(t, []int{3, 1}, "\x11\x09", 1, "\x05\x09", api.OK)
	wantDecode(t, []int{1, 3}, "\x09\x11", 1, "\x05\x09", api.OK)
	wantDecode(t, []int{0, 1}, "\x05\x09", 1, "\x05\x09", api.OK)
	wantDecode(t, []int{0}, "abc", 3, "abc", api.OK)
	wantDecode(t, []int{allNumbers - 1}, "abc", 3, "abc", api.OK)
}

// TestP5EveryChoice: every choice of 1 to MaxBlock of all numbers, the first and the last among them, in some order.
func TestP5EveryChoice(t *testing.T) {
	r := rand.New(rand.NewSource(5))
	for k := 1; k <= api.MaxBlock; k++ {
		symbols := allSymbols(r, k, 2)
		for choice := uint(0); choice < 1<<allNumbers; choice++ {
			if bits.OnesCount(choice) != k {
				continue
			}
			numbers := []int{}
			for number := range allNumbers {
				if choice>>number&1 == 1 {
					numbers = append(numbers, number)
				}
			}
			r.Shuffle(k, func(i, j int) { numbers[i], numbers[j] = numbers[j], numbers[i] })
			wantDecode(t, numbers, pick(symbols, numbers, 2), 2, symbols[:k*2], api.OK)
		}
	}
}

func TestP5EverySizeAndBlock(t *testing.T) {
	r := rand.New(rand.NewSource(55))
	for size := 1; size <= api.MaxSize; size++ {
		for k := 1; k <= api.MaxBlock; k++ {
			symbols := allSymbols(r, k, size)
			for range 10 {
				numbers := r.Perm(allNumbers)[:k]
				wantDecode(t, numbers, pick(symbols, numbers, size), size, symbols[:k*size], api.OK)
			}
		}
	}
}

func TestP5ErrSize(t *testing.T) {
	for _, size := range []int{0, -1, api.MaxSize + 1, 256, 257, math.MinInt, math.MaxInt, 1 << 32, 1 << 61} {
		wantDecode(t, []int{0}, "a", size, "", api.ErrSize)
		wantDecode(t, []int{0}, strings.Repeat("a", api.MaxSize+1), size, "", api.ErrSize)
		wantDecode(t, nil, "", size, "", api.ErrSize)
		wantDecode(t, []int{0, 1, 2, 3, 4, 5, 6, 7}, "", size, "", api.ErrSize)
		wantDecode(t, []int{-1, 3, 3}, "", size, "", api.ErrSize)
	}
}

func TestP5ErrBlock(t *testing.T) {
	wantDecode(t, nil, "", 1, "", api.ErrBlock)
	wantDecode(t, []int{}, "", api.MaxSize, "", api.ErrBlock)
	wantDecode(t, nil, "a", 1, "", api.ErrBlock)
	wantDecode(t, []int{0, 1, 2, 3, 4, 5, 6, 7, 8}, "abcdefghi", 1, "", api.ErrBlock)
	wantDecode(t, make([]int, 300), strings.Repeat("a", 300), 1, "", api.ErrBlock)
	wantDecode(t, []int{0}, "", 1, "", api.ErrBlock)
	wantDecode(t, []int{0, 1}, "abc", 2, "", api.ErrBlock)
	wantDecode(t, []int{0, 1}, "ab", 2, "", api.ErrBlock)
	wantDecode(t, []int{0, 1}, "abcde", 2, "", api.ErrBlock)
	wantDecode(t, []int{0, 1}, "abcdef", 2, "", api.ErrBlock)
}

func TestP5ErrBlockAheadOfErrNumber(t *testing.T) {
	wantDecode(t, []int{-1}, "ab", 1, "", api.ErrBlock)
	wantDecode(t, []int{allNumbers}, "", 1, "", api.ErrBlock)
	wantDecode(t, []int{3, 3}, "a", 1, "", api.ErrBlock)
	wantDecode(t, []int{0, 1, 2, 3, 4, 5, 6, 7, 7}, "abcdefghi", 1, "", api.ErrBlock)
}

func TestP5ErrNumber(t *testing.T) {
	for _, number := range []int{-1, allNumbers, 255, 256, 257, -256, math.MinInt, math.MaxInt, 1 << 32} {
		wantDecode(t, []int{number}, "a", 1, "", api.ErrNumber)
		wantDecode(t, []int{number, 0}, "abcd", 2, "", api.ErrNumber)
		wantDecode(t, []int{0, 1, 2, 3, 4, 5, 6, number}, "abcdefgh", 1, "", api.ErrNumber)
	}
}

// TestP5ErrNumberTwice: a number stands twice, in any two places, and with the same symbol.
func TestP5ErrNumberTwice(t *testing.T) {
	for k := 2; k <= api.MaxBlock; k++ {
		for i := range k {
			for j := range i {
				numbers := make([]int, k)
				for place := range numbers {
					numbers[place] = allNumbers - 1 - place
				}
				numbers[i] = numbers[j]
				wantDecode(t, numbers, strings.Repeat("a", k), 1, "", api.ErrNumber)
			}
		}
	}
	wantDecode(t, []int{0, 0}, "ab", 1, "", api.ErrNumber)
}

// TestP2DecodeKeepsItsList: neither the list nor its spare room changes, whatever Decode answers.
func TestP2DecodeKeepsItsList(t *testing.T) {
	for _, c := range []struct {
		behind  []int
		k       int
		symbols string
		size    int
		want    api.Errno
	}{
		{[]int{3, 1, 77, 78, 79, 80, 81, 82, 83}, 2, "\x11\x09", 1, api.OK},
		{[]int{15, 8, 0, 4, 9, 2, 11, 7, 77, 78}, 8, "abcdefgh", 1, api.OK},
		{[]int{3, 1, 77, 78}, 2, "ab", 0, api.ErrSize},
		{[]int{3, 1, 77, 78}, 2, "abc", 1, api.ErrBlock},
		{[]int{77, 78, 79}, 0, "", 1, api.ErrBlock},
		{[]int{3, 16, 77, 78}, 2, "ab", 1, api.ErrNumber},
		{[]int{3, 2, 3, 78}, 3, "aba", 1, api.ErrNumber},
	} {
		before := slices.Clone(c.behind)
		if _, e := reserve.Decode(c.behind[:c.k], c.symbols, c.size); e != c.want {
			t.Errorf("Decode(%v, %q, %d) = %d, want %d", before[:c.k], c.symbols, c.size, e, c.want)
		}
		if !slices.Equal(c.behind, before) {
			t.Errorf("Decode(%v, %q, %d) made %v of %v", before[:c.k], c.symbols, c.size, c.behind, before)
		}
	}
}

// TestP2DecodeKeepsNoList: what is written into a list afterwards changes no later answer.
func TestP2DecodeKeepsNoList(t *testing.T) {
	numbers := []int{3, 1}
	wantDecode(t, numbers, "\x11\x09", 1, "\x05\x09", api.OK)
	numbers[0] = 99
	wantDecode(t, numbers, "\x11\x09", 1, "", api.ErrNumber)
	numbers[0] = 2
	wantDecode(t, numbers, "\x1d\x09", 1, "\x05\x09", api.OK)
	wantDecode(t, []int{3, 1}, "\x11\x09", 1, "\x05\x09", api.OK)
}
