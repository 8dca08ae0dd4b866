package reserve_test

import (
	"strings"
	"testing"

	"reserve/reserve"
)

// slowSum goes bit by bit over plain numbers, as the document's words go.
func slowSum(text string) uint16 {
	h := 65535
	for i := range len(text) {
		for bit := 7; bit >= 0; bit-- {
			t := 0
			if int(text[i])>>bit&1 != h>>15&1 {
				t = 1
			}
			h = h * 2 % 65536
			if t == 1 {
				h ^= 1 + 32 + 4096
			}
		}
	}
	return uint16(h)
}

func TestP3SumKnown(t *testing.T) {
	for _, c := range []struct {
		text string
		want uint16
	}{
		{"", 65535}, {"123456789", 10673}, {"\x00", 57840}, {"\xff", 65280}, {"A", 47381},
	} {
		if h := reserve.Sum(c.text); h != c.want {
			t.Errorf("Sum(%q) = %d, want %d", c.text, h, c.want)
		}
	}
}

func TestP3SumOfShortTexts(t *testing.T) {
	for a := range 256 {
		for b := range 256 {
			text := string([]byte{byte(a), byte(b)})
			want := slowSum(text)
			if h := reserve.Sum(text); h != want {
				t.Fatalf("Sum(%q) = %d, want %d", text, h, want)
			}
		}
	}
}

func TestP3SumOfLongTexts(t *testing.T) {
	for _, text := range []string{strings.Repeat("\x00", 1000), strings.Repeat("\xff", 1001), strings.Repeat("reserve, ", 9999), "\xff\xfe no UTF-8 \x80"} {
		want := slowSum(text)
		if h := reserve.Sum(text); h != want {
			t.Errorf("Sum of %d bytes = %d, want %d", len(text), h, want)
		}
	}
}
