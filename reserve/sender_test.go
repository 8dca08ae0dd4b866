package reserve_test

import (
	"math"
	"math/rand"
	"slices"
	"strings"
	"testing"

	"reserve/api"
	"reserve/reserve"
)

func endText(objects int) string {
	return checked(string([]byte{'E', byte(objects)}))
}

// asking tells a request of these items.
func asking(items ...api.Item) string {
	return requestText(items)
}

// anyText tells a text of so many bytes that differ enough for no two symbols of it to be alike by chance.
func anyText(r *rand.Rand, n int) string {
	text := make([]byte, n)
	r.Read(text)
	return string(text)
}

// slowSender lays out all that can be sent as soon as an object comes, and keeps what the promises speak of just as they
// say it.
type slowSender struct {
	size, block, spare int
	objects            []string
	symbols            map[[3]int]string // by object, block and number
	lengths            map[[2]int]int    // a block's symbols, by object and block
	owes, turn         map[[2]int]int
	inOrder            [][3]int // what has not come in its order yet
}

func newSlowSender(size int, block int, spare int) *slowSender {
	return &slowSender{size: size, block: block, spare: spare, symbols: map[[3]int]string{}, lengths: map[[2]int]int{}, owes: map[[2]int]int{}, turn: map[[2]int]int{}}
}

func (s *slowSender) enqueue(object string) {
	o := len(s.objects)
	s.objects = append(s.objects, object)
	for len(object)%s.size != 0 {
		object += "\x00"
	}
	for b := 0; object != ""; b++ {
		end := min(s.block*s.size, len(object))
		spare, _ := reserve.Encode(object[:end], s.size, s.spare)
		all := object[:end] + spare
		k := end / s.size
		s.lengths[[2]int{o, b}] = k
		for number := range k + s.spare {
			s.symbols[[3]int{o, b, number}] = all[number*s.size : (number+1)*s.size]
		}
		for number := range k {
			s.inOrder = append(s.inOrder, [3]int{o, b, number})
		}
		object = object[end:]
	}
}

func (s *slowSender) text(at [3]int) string {
	return dataText(byte(at[0]), byte(at[1]), byte(at[2]), len(s.objects[at[0]]), s.symbols[at])
}

func (s *slowSender) next() string {
	for o := range s.objects {
		for b := 0; s.lengths[[2]int{o, b}] > 0; b++ {
			at := [2]int{o, b}
			if s.owes[at] > 0 {
				k := s.lengths[at]
				number := (k + s.turn[at]) % (k + s.spare)
				s.owes[at]--
				s.turn[at]++
				return s.text([3]int{o, b, number})
			}
		}
	}
	if len(s.inOrder) > 0 {
		at := s.inOrder[0]
		s.inOrder = s.inOrder[1:]
		return s.text(at)
	}
	return endText(len(s.objects))
}

func (s *slowSender) hear(items []api.Item) {
	for _, item := range items {
		for at, k := range s.lengths {
			if at[0] != item.Object {
				continue
			}
			if item.Count == 0 {
				s.owes[at] = max(s.owes[at], k)
			} else if at[1] == item.Block {
				s.owes[at] = max(s.owes[at], min(item.Count, k))
			}
		}
	}
}

func mustSender(t *testing.T, size int, block int, spare int, objects ...string) *reserve.Sender {
	t.Helper()
	s, e := reserve.NewSender(size, block, spare)
	if s == nil || e != api.OK {
		t.Fatalf("NewSender(%d, %d, %d) = %v, %d", size, block, spare, s, e)
	}
	for i, object := range objects {
		wantEnqueue(t, s, object, i, api.OK)
	}
	return s
}

func wantEnqueue(t *testing.T, s *reserve.Sender, object string, want int, wantErr api.Errno) {
	t.Helper()
	if n, e := s.Enqueue(object); n != want || e != wantErr {
		t.Errorf("Enqueue of %d bytes = %d, %d, want %d, %d", len(object), n, e, want, wantErr)
	}
}

// wantNext: these messages come, one behind the other.
func wantNext(t *testing.T, s *reserve.Sender, want ...string) {
	t.Helper()
	for i, w := range want {
		if text := s.Next(); text != w {
			t.Fatalf("message %d is %q, want %q", i, text, w)
		}
	}
}

// wantNumbers: data of this block of this object comes, with these numbers, one behind the other.
func wantNumbers(t *testing.T, s *reserve.Sender, object int, block int, numbers ...int) {
	t.Helper()
	for i, number := range numbers {
		text := s.Next()
		m, e := reserve.Read(text)
		if e != api.OK || m.Kind != api.Data || m.Object != object || m.Block != block || m.Number != number {
			t.Fatalf("message %d is %q, want data of object %d, block %d, number %d", i, text, object, block, number)
		}
	}
}

// hearer is a sender or a receiver.
type hearer interface {
	Hear(text string) api.Errno
}

func wantHear(t *testing.T, h hearer, text string, want api.Errno) {
	t.Helper()
	if e := h.Hear(text); e != want {
		t.Errorf("Hear(%.60q) = %d, want %d", text, e, want)
	}
}

// triedLayouts calls try with all sizes, blocks and spares about their limits and far beyond, and with what NewSender
// and NewReceiver answer to them.
func triedLayouts(try func(size int, block int, spare int, want api.Errno)) {
	tried := slices.Concat(beyond, between(-20, 40))
	for _, size := range tried {
		for _, block := range tried {
			for _, spare := range tried {
				want := api.OK
				switch {
				case size < 1 || size > 16:
					want = api.ErrSize
				case block < 1 || block > 8:
					want = api.ErrBlock
				case spare < 0 || spare > 8:
					want = api.ErrSpare
				}
				try(size, block, spare, want)
			}
		}
	}
}

func TestP7EveryLimit(t *testing.T) {
	triedLayouts(func(size int, block int, spare int, want api.Errno) {
		s, e := reserve.NewSender(size, block, spare)
		if e != want || (s != nil) != (want == api.OK) {
			t.Fatalf("NewSender(%d, %d, %d) = %v, %d, want %d", size, block, spare, s, e, want)
		}
	})
}

func TestP7NoObjectsAtFirst(t *testing.T) {
	for _, c := range [][3]int{{1, 1, 0}, {16, 8, 8}, {1, 8, 0}, {16, 1, 8}} {
		s := mustSender(t, c[0], c[1], c[2])
		wantNext(t, s, endText(0), endText(0), endText(0))
		wantEnqueue(t, s, "x", 0, api.OK)
	}
}

func TestP8Limits(t *testing.T) {
	for _, c := range []struct {
		bytes int
		want  api.Errno
	}{{0, api.ErrObject}, {1, api.OK}, {2, api.OK}, {255, api.OK}, {256, api.OK}, {257, api.ErrObject}, {512, api.ErrObject}, {65536, api.ErrObject}, {65537, api.ErrObject}, {1000000, api.ErrObject}} {
		for _, size := range []int{1, 3, 16} {
			wantEnqueue(t, mustSender(t, size, 8, 8), strings.Repeat("x", c.bytes), 0, c.want)
		}
	}
}

func TestP8EveryLength(t *testing.T) {
	for n := 1; n <= api.MaxObject; n++ {
		for number := range api.MaxObjects {
			s := mustSender(t, 5, 3, 2, slices.Repeat([]string{"other"}, number)...)
			wantEnqueue(t, s, strings.Repeat("x", n), number, api.OK)
		}
	}
}

func TestP8Full(t *testing.T) {
	for _, object := range []string{"x", "the same", strings.Repeat("x", api.MaxObject)} {
		s := mustSender(t, 16, 8, 8, slices.Repeat([]string{object}, api.MaxObjects)...)
		for range 3 {
			wantEnqueue(t, s, "x", 0, api.ErrFull)
			wantEnqueue(t, s, strings.Repeat("x", api.MaxObject), 0, api.ErrFull)
			wantEnqueue(t, s, "", 0, api.ErrObject)
			wantEnqueue(t, s, strings.Repeat("x", api.MaxObject+1), 0, api.ErrObject)
		}
	}
}

// TestP8FullWhenAllIsSent: an object stays the sender's when its symbols have come.
func TestP8FullWhenAllIsSent(t *testing.T) {
	s := mustSender(t, 1, 1, 0, slices.Repeat([]string{"x"}, api.MaxObjects)...)
	for object := range api.MaxObjects {
		wantNumbers(t, s, object, 0, 0)
	}
	wantNext(t, s, endText(api.MaxObjects))
	wantEnqueue(t, s, "x", 0, api.ErrFull)
	wantNext(t, s, endText(api.MaxObjects))
}

// TestP8RefusedObjectsChangeNothing: whatever stands between them, all goes on as if they had not been.
func TestP8RefusedObjectsChangeNothing(t *testing.T) {
	refuse := func(s *reserve.Sender) {
		wantEnqueue(t, s, "", 0, api.ErrObject)
		wantEnqueue(t, s, strings.Repeat("x", api.MaxObject+1), 0, api.ErrObject)
	}
	s := mustSender(t, 2, 2, 1)
	refuse(s)
	wantNext(t, s, endText(0))
	wantEnqueue(t, s, "abcde", 0, api.OK)
	refuse(s)
	wantNext(t, s, dataText(0, 0, 0, 5, "ab"))
	wantHear(t, s, asking(api.Item{Object: 0, Block: 1, Count: 1}), api.OK)
	refuse(s)
	wantNext(t, s, dataText(0, 1, 1, 5, "e\x00"))
	refuse(s)
	wantNext(t, s, dataText(0, 0, 1, 5, "cd"), dataText(0, 1, 0, 5, "e\x00"))
	refuse(s)
	wantNext(t, s, endText(1))
	wantEnqueue(t, s, "f", 1, api.OK)
	for number := 2; number < api.MaxObjects; number++ {
		wantEnqueue(t, s, "f", number, api.OK)
	}
	wantEnqueue(t, s, "g", 0, api.ErrFull)
	for number := 1; number < api.MaxObjects; number++ {
		wantNext(t, s, dataText(byte(number), 0, 0, 1, "f\x00"))
		wantEnqueue(t, s, "g", 0, api.ErrFull)
	}
	wantNext(t, s, endText(api.MaxObjects))
}

func TestP9Example(t *testing.T) {
	s := mustSender(t, 2, 2, 1, "abcde")
	ab, cd, e := dataText(0, 0, 0, 5, "ab"), dataText(0, 0, 1, 5, "cd"), dataText(0, 1, 0, 5, "e\x00")
	// Between a and c, and b and d, the line goes on: at 2 it is the first, and twice the step, in the field's way.
	spare := dataText(0, 0, 2, 5, string([]byte{'a' ^ slowMul(2, 'a'^'c'), 'b' ^ slowMul(2, 'b'^'d')}))
	other := dataText(0, 1, 1, 5, "e\x00")
	wantNext(t, s, ab, cd, e, endText(1), endText(1), endText(1))
	wantHear(t, s, asking(api.Item{Object: 0, Block: 0, Count: 1}), api.OK)
	wantNext(t, s, spare, endText(1))
	wantHear(t, s, asking(api.Item{Object: 0, Block: 0, Count: 1}), api.OK)
	wantNext(t, s, ab, endText(1))
	wantHear(t, s, asking(api.Item{Object: 0, Block: 0, Count: 0}), api.OK)
	wantNext(t, s, cd, spare, other, endText(1))
}

// TestP9EveryLayout: of all that can be told of an object, each comes as it should: its symbols in their order, and all
// that is owed, over more than one round of the numbers.
func TestP9EveryLayout(t *testing.T) {
	r := rand.New(rand.NewSource(9))
	for size := 1; size <= api.MaxSize; size++ {
		for block := 1; block <= api.MaxBlock; block++ {
			for spare := 0; spare <= api.MaxSpare; spare++ {
				for _, n := range []int{1, size, size + 1, min(size*block, 256), min(size*block+1, 256), 1 + r.Intn(256), 256} {
					object := anyText(r, n)
					s := mustSender(t, size, block, spare, object)
					slow := newSlowSender(size, block, spare)
					slow.enqueue(object)
					for len(slow.inOrder) > 0 {
						wantNext(t, s, slow.next())
					}
					wantNext(t, s, endText(1), endText(1))
					for range 3 {
						wantHear(t, s, asking(api.Item{}), api.OK)
						slow.hear([]api.Item{{}})
						wantNext(t, s, slow.next(), slow.next(), slow.next())
					}
				}
			}
		}
	}
}

// TestP9EveryLength: of each length, with the last block and the last symbol full or not.
func TestP9EveryLength(t *testing.T) {
	r := rand.New(rand.NewSource(99))
	for n := 1; n <= api.MaxObject; n++ {
		for _, c := range [][3]int{{1, 1, 0}, {1, 8, 8}, {2, 3, 1}, {7, 5, 3}, {16, 1, 2}, {16, 8, 0}, {16, 8, 8}} {
			object := anyText(r, n)
			s := mustSender(t, c[0], c[1], c[2], object)
			got := ""
			for symbols := (n + c[0] - 1) / c[0]; symbols > 0; symbols-- {
				m, e := reserve.Read(s.Next())
				if e != api.OK || m.Kind != api.Data || m.Length != n || len(m.Symbol) != c[0] {
					t.Fatalf("of %d bytes in %v came %#v, %d", n, c, m, e)
				}
				got += m.Symbol
			}
			wantNext(t, s, endText(1))
			if got[:n] != object || strings.Trim(got[n:], "\x00") != "" {
				t.Errorf("of %q in %v came %q", object, c, got)
			}
		}
	}
}

// TestP9MostBlocks: as many blocks as there are numbers of blocks.
func TestP9MostBlocks(t *testing.T) {
	object := ""
	for b := range 256 {
		object += string([]byte{byte(b)})
	}
	for _, spare := range []int{0, 1, 8} {
		s := mustSender(t, 1, 1, spare, object)
		for b := range 256 {
			wantNext(t, s, dataText(0, byte(b), 0, 256, object[b:b+1]))
		}
		wantNext(t, s, endText(1))
		wantHear(t, s, asking(api.Item{Object: 0, Block: 255, Count: 1}), api.OK)
		wantNext(t, s, dataText(0, 255, byte(min(spare, 1)), 256, "\xff"), endText(1))
	}
}

// TestP9OrderOfObjects: by object, then block, then number.
func TestP9OrderOfObjects(t *testing.T) {
	s := mustSender(t, 1, 2, 1, "abcde", "f", "gh", "ijk")
	wantNumbers(t, s, 0, 0, 0, 1)
	wantNumbers(t, s, 0, 1, 0, 1)
	wantNumbers(t, s, 0, 2, 0)
	wantNumbers(t, s, 1, 0, 0)
	wantNumbers(t, s, 2, 0, 0, 1)
	wantNumbers(t, s, 3, 0, 0, 1)
	wantNumbers(t, s, 3, 1, 0)
	wantNext(t, s, endText(4), endText(4))
}

// TestP9ObjectsEnqueuedBetween: in the midst of another object, behind it, behind the end.
func TestP9ObjectsEnqueuedBetween(t *testing.T) {
	s := mustSender(t, 1, 2, 1)
	wantNext(t, s, endText(0))
	wantEnqueue(t, s, "abc", 0, api.OK)
	wantNext(t, s, dataText(0, 0, 0, 3, "a"))
	wantEnqueue(t, s, "de", 1, api.OK)
	wantNext(t, s, dataText(0, 0, 1, 3, "b"), dataText(0, 1, 0, 3, "c"))
	wantEnqueue(t, s, "f", 2, api.OK)
	wantNext(t, s, dataText(1, 0, 0, 2, "d"), dataText(1, 0, 1, 2, "e"), dataText(2, 0, 0, 1, "f"))
	wantEnqueue(t, s, "g", 3, api.OK)
	wantNext(t, s, dataText(3, 0, 0, 1, "g"), endText(4), endText(4))
	wantEnqueue(t, s, "hi", 4, api.OK)
	wantNext(t, s, dataText(4, 0, 0, 2, "h"), dataText(4, 0, 1, 2, "i"), endText(5))
}

// TestP9OwedGoesAhead: what is owed comes ahead of the order, the first object's first block first, and takes nothing
// from the order.
func TestP9OwedGoesAhead(t *testing.T) {
	s := mustSender(t, 1, 2, 2, "abc", "def")
	wantNumbers(t, s, 0, 0, 0)
	wantHear(t, s, asking(api.Item{Object: 1, Block: 1, Count: 1}, api.Item{Object: 1, Block: 0, Count: 2}, api.Item{Object: 0, Block: 1, Count: 1}), api.OK)
	wantNumbers(t, s, 0, 1, 1)
	wantNumbers(t, s, 1, 0, 2)
	wantHear(t, s, asking(api.Item{Object: 0, Block: 0, Count: 1}), api.OK)
	wantNumbers(t, s, 0, 0, 2)
	wantNumbers(t, s, 1, 0, 3)
	wantNumbers(t, s, 1, 1, 1)
	wantNumbers(t, s, 0, 0, 1)
	wantNumbers(t, s, 0, 1, 0)
	wantNumbers(t, s, 1, 0, 0, 1)
	wantNumbers(t, s, 1, 1, 0)
	wantNext(t, s, endText(2))
}

// TestP9Turns: for what is owed the numbers go around behind the block's own, each block in its own turn.
func TestP9Turns(t *testing.T) {
	for k := 1; k <= api.MaxBlock; k++ {
		for spare := 0; spare <= api.MaxSpare; spare++ {
			s := mustSender(t, 1, k, spare, strings.Repeat("x", k)+"y", strings.Repeat("z", k))
			for range 2*k + 1 {
				s.Next()
			}
			wantNext(t, s, endText(2))
			for turn := range 5 * (k + spare) {
				wantHear(t, s, asking(api.Item{Object: 0, Block: 0, Count: 1}), api.OK)
				wantNumbers(t, s, 0, 0, (k+turn)%(k+spare))
				wantNext(t, s, endText(2))
				if turn%2 == 0 {
					wantHear(t, s, asking(api.Item{Object: 0, Block: 1, Count: 1}), api.OK)
					wantNumbers(t, s, 0, 1, (1+turn/2)%(1+spare))
				}
			}
			wantHear(t, s, asking(api.Item{Object: 1, Block: 0, Count: 1}), api.OK)
			wantNumbers(t, s, 1, 0, k%(k+spare))
			wantNext(t, s, endText(2))
		}
	}
}

// TestP9NoSpare: what is owed comes of the block's own symbols, from number 0 on.
func TestP9NoSpare(t *testing.T) {
	s := mustSender(t, 1, 3, 0, "abcd")
	a, b, c, d := dataText(0, 0, 0, 4, "a"), dataText(0, 0, 1, 4, "b"), dataText(0, 0, 2, 4, "c"), dataText(0, 1, 0, 4, "d")
	wantNext(t, s, a, b, c, d, endText(1))
	wantHear(t, s, asking(api.Item{Object: 0, Block: 0, Count: 2}), api.OK)
	wantNext(t, s, a, b, endText(1))
	wantHear(t, s, asking(api.Item{Object: 0, Block: 0, Count: 3}), api.OK)
	wantNext(t, s, c, a, b, endText(1))
	wantHear(t, s, asking(api.Item{Object: 0, Block: 1, Count: 1}), api.OK)
	wantNext(t, s, d, endText(1))
	wantHear(t, s, asking(api.Item{Object: 0, Block: 1, Count: 1}), api.OK)
	wantNext(t, s, d, endText(1))
}

// TestP10EveryCount: for blocks of each number of symbols, the shorter last one too.
func TestP10EveryCount(t *testing.T) {
	for k := 1; k <= api.MaxBlock; k++ {
		for last := 1; last <= k; last++ {
			for count := 1; count <= api.MaxBlock; count++ {
				s := mustSender(t, 1, k, 8, strings.Repeat("x", k+last))
				for range k + last {
					s.Next()
				}
				wantHear(t, s, asking(api.Item{Object: 0, Block: 1, Count: count}), api.OK)
				wantNumbers(t, s, 0, 1, between(last, last+min(count, last))...)
				wantNext(t, s, endText(1))
				wantHear(t, s, asking(api.Item{Object: 0, Block: 0, Count: count}), api.OK)
				wantNumbers(t, s, 0, 0, between(k, k+min(count, k))...)
				wantNext(t, s, endText(1))
			}
		}
	}
}

// TestP10CountOf0: all of the object is asked for, whatever block stands there.
func TestP10CountOf0(t *testing.T) {
	for block := range 256 {
		s := mustSender(t, 1, 3, 8, "abcdefgh", "ijkl", "m")
		for range 13 {
			s.Next()
		}
		wantNext(t, s, endText(3))
		wantHear(t, s, asking(api.Item{Object: 1, Block: block, Count: 0}), api.OK)
		wantNumbers(t, s, 1, 0, 3, 4, 5)
		wantNumbers(t, s, 1, 1, 1)
		wantNext(t, s, endText(3))
		wantHear(t, s, asking(api.Item{Object: 0, Block: block, Count: 0}), api.OK)
		wantNumbers(t, s, 0, 0, 3, 4, 5)
		wantNumbers(t, s, 0, 1, 3, 4, 5)
		wantNumbers(t, s, 0, 2, 2, 3)
		wantNext(t, s, endText(3))
	}
}

// TestP10AtLeast: what is owed stays, if it is more, and grows to what is asked for, if it is less; it is not summed up.
func TestP10AtLeast(t *testing.T) {
	for first := 0; first <= api.MaxBlock; first++ {
		for second := 0; second <= api.MaxBlock; second++ {
			for sent := range 5 {
				k := 5
				s := mustSender(t, 1, k, 8, "abcde")
				wantNumbers(t, s, 0, 0, 0, 1, 2, 3, 4)
				owes := min(first, k)
				if first == 0 {
					owes = k
				}
				wantHear(t, s, asking(api.Item{Object: 0, Block: 0, Count: first}), api.OK)
				turn := min(sent, owes)
				wantNumbers(t, s, 0, 0, between(k, k+turn)...)
				again := min(second, k)
				if second == 0 {
					again = k
				}
				wantHear(t, s, asking(api.Item{Object: 0, Block: 0, Count: second}), api.OK)
				left := max(owes-turn, again)
				for range left {
					wantNumbers(t, s, 0, 0, (k+turn)%(k+8))
					turn++
				}
				wantNext(t, s, endText(1), endText(1))
			}
		}
	}
}

// TestP10SameItemTwice: in one request or in two, it is owed once.
func TestP10SameItemTwice(t *testing.T) {
	item := api.Item{Object: 0, Block: 0, Count: 2}
	s := mustSender(t, 1, 4, 8, "abcd")
	wantNumbers(t, s, 0, 0, 0, 1, 2, 3)
	wantHear(t, s, asking(item, item), api.OK)
	wantNumbers(t, s, 0, 0, 4, 5)
	wantNext(t, s, endText(1))
	wantHear(t, s, asking(item), api.OK)
	wantHear(t, s, asking(item), api.OK)
	wantNumbers(t, s, 0, 0, 6, 7)
	wantNext(t, s, endText(1))
	wantHear(t, s, asking(item), api.OK)
	wantNumbers(t, s, 0, 0, 8)
	wantHear(t, s, asking(item), api.OK)
	wantNumbers(t, s, 0, 0, 9, 10)
	wantNext(t, s, endText(1))
}

// TestP10SeveralItems: each item of a request counts, up to the last of as many as it can have, and those that are
// passed over do not hinder the others.
func TestP10SeveralItems(t *testing.T) {
	s := mustSender(t, 1, 2, 8, "abcde", "fghij")
	for range 10 {
		s.Next()
	}
	wantHear(t, s, asking(
		api.Item{Object: 1, Block: 2, Count: 1}, api.Item{Object: 1, Block: 3, Count: 1},
		api.Item{Object: 1, Block: 1, Count: 1}, api.Item{Object: 7, Block: 0, Count: 0},
		api.Item{Object: 0, Block: 1, Count: 1}, api.Item{Object: 2, Block: 0, Count: 1},
		api.Item{Object: 1, Block: 1, Count: 2}, api.Item{Object: 0, Block: 0, Count: 2}), api.OK)
	wantNumbers(t, s, 0, 0, 2, 3)
	wantNumbers(t, s, 0, 1, 2)
	wantNumbers(t, s, 1, 1, 2, 3)
	wantNumbers(t, s, 1, 2, 1)
	wantNext(t, s, endText(2))
}

// TestP10WhatIsNotThere: every other object and block is passed over.
func TestP10WhatIsNotThere(t *testing.T) {
	for object := range api.MaxObjects {
		for block := range 256 {
			for _, count := range []int{0, 1, 8} {
				s := mustSender(t, 1, 2, 1, "abc", "d")
				for range 4 {
					s.Next()
				}
				wantHear(t, s, asking(api.Item{Object: object, Block: block, Count: count}), api.OK)
				there := object == 0 && block < 2 || object == 1 && block < 1
				if there || object < 2 && count == 0 {
					if m, e := reserve.Read(s.Next()); e != api.OK || m.Kind != api.Data || m.Object != object {
						t.Errorf("object %d, block %d, count %d: %#v, %d", object, block, count, m, e)
					}
				} else {
					wantNext(t, s, endText(2), endText(2))
				}
			}
		}
	}
}

// TestP10AskedForAheadOfItsTime: what a request asks of an object that comes only later is not owed then.
func TestP10AskedForAheadOfItsTime(t *testing.T) {
	s := mustSender(t, 1, 2, 1)
	wantHear(t, s, asking(api.Item{Object: 0, Block: 0, Count: 0}, api.Item{Object: 0, Block: 0, Count: 1}), api.OK)
	wantNext(t, s, endText(0))
	wantEnqueue(t, s, "ab", 0, api.OK)
	wantHear(t, s, asking(api.Item{Object: 1, Block: 0, Count: 0}, api.Item{Object: 1, Block: 0, Count: 2}), api.OK)
	wantEnqueue(t, s, "cd", 1, api.OK)
	wantNumbers(t, s, 0, 0, 0, 1)
	wantNumbers(t, s, 1, 0, 0, 1)
	wantNext(t, s, endText(2))
}

// TestP10AheadOfTheFirstSymbol: what is owed comes first, a spare symbol at first, and then all symbols in their order.
func TestP10AheadOfTheFirstSymbol(t *testing.T) {
	s := mustSender(t, 1, 2, 1, "abc")
	wantHear(t, s, asking(api.Item{Object: 0, Block: 0, Count: 2}, api.Item{Object: 0, Block: 1, Count: 1}), api.OK)
	wantNumbers(t, s, 0, 0, 2, 0)
	wantNumbers(t, s, 0, 1, 1)
	wantNumbers(t, s, 0, 0, 0, 1)
	wantNumbers(t, s, 0, 1, 0)
	wantNext(t, s, endText(1))
}

// noRequests has texts that are no requests, though most are near one that asks for all of object 0.
func noRequests() []string {
	texts := []string{"", "x", "R", "R\x01", checked(""), checked("R"), checked("R\x00"), checked("R\x01"), checked("R\x01\x00"), checked("R\x01\x00\x00"), checked("R\x02\x00\x00\x00"), checked("R\x00\x00\x00\x00"), checked("r\x01\x00\x00\x00"), strings.Repeat("R", 1000000)}
	for _, m := range someMessages() {
		if m.Kind != api.Request {
			text, _ := reserve.Write(m)
			texts = append(texts, text)
		}
	}
	for _, wrong := range []api.Item{{Object: 8}, {Object: 255}, {Count: 9}, {Count: 255}} {
		texts = append(texts, asking(wrong), asking(api.Item{}, wrong), asking(wrong, api.Item{}))
	}
	texts = append(texts, asking(make([]api.Item, api.MaxItems+1)...), asking())
	for _, text := range []string{asking(api.Item{}), asking(api.Item{Count: 2}, api.Item{Block: 1, Count: 1})} {
		texts = append(texts, spoilt(text)...)
	}
	return texts
}

// spoilt tells what is left of the text from its beginning or up to its end, the text with each bit turned, and grown.
func spoilt(text string) []string {
	texts := []string{text + "x", text + "\x00", "x" + text, text + text}
	for n := range len(text) {
		texts = append(texts, text[:n], text[n+1:])
		for bit := range 8 {
			bytes := []byte(text)
			bytes[n] ^= 1 << bit
			texts = append(texts, string(bytes))
		}
	}
	return texts
}

// TestP10NoRequests: they are refused and change nothing, whatever the sender has sent and owes.
func TestP10NoRequests(t *testing.T) {
	s := mustSender(t, 1, 3, 8)
	refuse := func() {
		for _, text := range noRequests() {
			wantHear(t, s, text, api.ErrMessage)
		}
	}
	refuse()
	wantNext(t, s, endText(0))
	wantEnqueue(t, s, "abcd", 0, api.OK)
	refuse()
	wantNumbers(t, s, 0, 0, 0)
	refuse()
	wantHear(t, s, asking(api.Item{Object: 0, Block: 0, Count: 2}), api.OK)
	refuse()
	wantNumbers(t, s, 0, 0, 3)
	refuse()
	wantNumbers(t, s, 0, 0, 4)
	refuse()
	wantNumbers(t, s, 0, 0, 1, 2)
	wantNumbers(t, s, 0, 1, 0)
	refuse()
	wantNext(t, s, endText(1))
}

// TestP10NotItsOwnMessages: a sender that hears what it sends learns nothing from it.
func TestP10NotItsOwnMessages(t *testing.T) {
	s := mustSender(t, 2, 2, 1, "abcde")
	for number := range 2 {
		text := s.Next()
		wantHear(t, s, text, api.ErrMessage)
		m, e := reserve.Read(text)
		if e != api.OK || m.Block != 0 || m.Number != number {
			t.Errorf("message %d is %q", number, text)
		}
	}
	wantNext(t, s, dataText(0, 1, 0, 5, "e\x00"), endText(1))
	wantHear(t, s, endText(1), api.ErrMessage)
	wantNext(t, s, endText(1))
}

// anyItems makes items that mostly ask for what is there, and sometimes for what is not.
func anyItems(r *rand.Rand) []api.Item {
	items := make([]api.Item, 1+r.Intn(api.MaxItems))
	for i := range items {
		items[i] = api.Item{Object: r.Intn(1 + r.Intn(api.MaxObjects)), Block: r.Intn(1 + r.Intn(10)), Count: r.Intn(api.MaxBlock + 1)}
		if r.Intn(10) == 0 {
			items[i].Block = r.Intn(256)
		}
	}
	return items
}

// step does one thing with both senders, and what they answer is the same.
func step(t *testing.T, r *rand.Rand, s *reserve.Sender, slow *slowSender) {
	t.Helper()
	switch choice := r.Intn(40); {
	case choice == 0:
		object := anyText(r, 1+r.Intn(1+r.Intn(api.MaxObject)))
		if len(slow.objects) == api.MaxObjects {
			wantEnqueue(t, s, object, 0, api.ErrFull)
		} else {
			wantEnqueue(t, s, object, len(slow.objects), api.OK)
			slow.enqueue(object)
		}
	case choice == 1:
		wantEnqueue(t, s, anyText(r, r.Intn(2)*(api.MaxObject+1)), 0, api.ErrObject)
	case choice == 2:
		items := anyItems(r)
		wantHear(t, s, requestText(items), api.OK)
		slow.hear(items)
	case choice == 3:
		wantHear(t, s, requestText(anyItems(r))[1:], api.ErrMessage)
	default:
		wantNext(t, s, slow.next())
	}
}

// TestP9AnyCourse: objects, requests and messages in any order, in every layout.
func TestP9AnyCourse(t *testing.T) {
	r := rand.New(rand.NewSource(999))
	for size := 1; size <= api.MaxSize; size++ {
		for block := 1; block <= api.MaxBlock; block++ {
			for spare := 0; spare <= api.MaxSpare; spare++ {
				s := mustSender(t, size, block, spare)
				slow := newSlowSender(size, block, spare)
				for range 300 {
					step(t, r, s, slow)
				}
			}
		}
	}
}

// TestP2SendersSideBySide: each goes its own course, as if it were alone, though they are alike and have the same
// objects.
func TestP2SendersSideBySide(t *testing.T) {
	r := rand.New(rand.NewSource(2))
	for range 20 {
		senders, slows := []*reserve.Sender{}, []*slowSender{}
		for range 5 {
			s, slow := mustSender(t, 2, 3, 2, "the same", "objects"), newSlowSender(2, 3, 2)
			slow.enqueue("the same")
			slow.enqueue("objects")
			senders, slows = append(senders, s), append(slows, slow)
		}
		for range 1000 {
			i := r.Intn(len(senders))
			step(t, r, senders[i], slows[i])
		}
	}
}

// TestP2SenderKeepsNoBytesOfTheCaller: what the caller does with the bytes that an object or a request was made of
// changes nothing.
func TestP2SenderKeepsNoBytesOfTheCaller(t *testing.T) {
	s := mustSender(t, 1, 2, 1)
	object := []byte("ab")
	wantEnqueue(t, s, string(object), 0, api.OK)
	object[0], object[1] = 'x', 'y'
	request := []byte(asking(api.Item{Object: 0, Block: 0, Count: 2}))
	wantHear(t, s, string(request), api.OK)
	for i := range request {
		request[i] = 0
	}
	wantNumbers(t, s, 0, 0, 2, 0)
	wantNext(t, s, dataText(0, 0, 0, 2, "a"), dataText(0, 0, 1, 2, "b"), endText(1))
}

// TestP1SenderNumbersBeyond: the greatest and least numbers there are give errors, not senders.
func TestP1SenderNumbersBeyond(t *testing.T) {
	for _, n := range []int{math.MinInt, math.MaxInt, math.MinInt + 1, math.MaxInt - 1} {
		for _, c := range []struct {
			size, block, spare int
			want               api.Errno
		}{{n, n, n, api.ErrSize}, {n, 1, 0, api.ErrSize}, {1, n, n, api.ErrBlock}, {1, n, 0, api.ErrBlock}, {1, 1, n, api.ErrSpare}} {
			if s, e := reserve.NewSender(c.size, c.block, c.spare); s != nil || e != c.want {
				t.Errorf("NewSender(%d, %d, %d) = %v, %d, want %d", c.size, c.block, c.spare, s, e, c.want)
			}
		}
	}
}
