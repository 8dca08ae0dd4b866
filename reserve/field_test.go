package reserve_test

import (
	"testing"

	"reserve/api"
	"reserve/reserve"
)

// slowMul multiplies as the document's words go: it multiplies out first, and then replaces the highest power, again
// and again.
func slowMul(a byte, b byte) byte {
	out := 0
	for i := range 8 {
		for j := range 8 {
			out ^= (int(a) >> i & 1) * (int(b) >> j & 1) << (i + j)
		}
	}
	for m := 14; m >= 8; m-- {
		if out>>m&1 == 1 {
			out ^= 1<<m | 1<<(m-4) | 1<<(m-5) | 1<<(m-6) | 1<<(m-8)
		}
	}
	return byte(out)
}

func TestP3MulExamples(t *testing.T) {
	for _, c := range [][3]byte{{2, 128, 29}, {3, 7, 9}, {29, 128, 38}, {12, 2, 24}, {12, 3, 20}, {0, 0, 0}, {0, 255, 0}, {1, 255, 255}} {
		if p := reserve.Mul(c[0], c[1]); p != c[2] {
			t.Errorf("Mul(%d, %d) = %d, want %d", c[0], c[1], p, c[2])
		}
	}
}

func TestP3MulAll(t *testing.T) {
	for a := range 256 {
		for b := range 256 {
			want := slowMul(byte(a), byte(b))
			if p := reserve.Mul(byte(a), byte(b)); p != want {
				t.Fatalf("Mul(%d, %d) = %d, want %d", a, b, p, want)
			}
		}
	}
}

func TestP3InvExamples(t *testing.T) {
	for _, c := range [][2]byte{{1, 1}, {2, 142}, {142, 2}} {
		if i, e := reserve.Inv(c[0]); i != c[1] || e != api.OK {
			t.Errorf("Inv(%d) = %d, %d, want %d, OK", c[0], i, e, c[1])
		}
	}
}

func TestP3InvAll(t *testing.T) {
	for a := 1; a < 256; a++ {
		i, e := reserve.Inv(byte(a))
		if p := slowMul(byte(a), i); p != 1 || e != api.OK {
			t.Errorf("Inv(%d) = %d, %d; their product is %d", a, i, e, p)
		}
	}
}

func TestP3InvOfZero(t *testing.T) {
	if i, e := reserve.Inv(0); i != 0 || e != api.ErrZero {
		t.Errorf("Inv(0) = %d, %d, want 0, ErrZero", i, e)
	}
}
