// Package check: the check that stands at a message's end.
package check

const (
	start  = 65535
	top    = 1 << 15
	turned = 1<<0 | 1<<5 | 1<<12
)

// Sum tells the check of a text.
func Sum(text string) uint16 {
	h := uint16(start)
	for i := 0; i < len(text); i++ {
		h = afterByte(h, text[i])
	}
	return h
}

func afterByte(h uint16, b byte) uint16 {
	for mask := byte(128); mask > 0; mask >>= 1 {
		inByte := b&mask != 0
		inCheck := h&top != 0
		h <<= 1
		if inByte != inCheck {
			h ^= turned
		}
	}
	return h
}
