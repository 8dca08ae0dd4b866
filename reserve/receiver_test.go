package reserve_test

import (
	"math/rand"
	"slices"
	"strings"
	"testing"

	"reserve/api"
	"reserve/reserve"
)

// cut tells how many symbols each block of an object of this length has, by laying symbol behind symbol.
func cut(length int, size int, block int) []int {
	blocks := []int{}
	for ; length > 0; length -= size {
		if last := len(blocks) - 1; last >= 0 && blocks[last] < block {
			blocks[last]++
		} else {
			blocks = append(blocks, 1)
		}
	}
	return blocks
}

// slowReceiver keeps what the promises speak of just as they say it.
type slowReceiver struct {
	size, block, spare int
	known, taken       int
	lengths            map[int]int              // by object, if it is known
	come               map[[2]int][]api.Message // by object and block
}

func newSlowReceiver(size int, block int, spare int) *slowReceiver {
	return &slowReceiver{size: size, block: block, spare: spare, lengths: map[int]int{}, come: map[[2]int][]api.Message{}}
}

func (s *slowReceiver) hear(text string) api.Errno {
	m, e := reserve.Read(text)
	switch {
	case e != api.OK || m.Kind == api.Request:
		return api.ErrMessage
	case m.Kind == api.End:
		s.known = max(s.known, m.Objects)
		return api.OK
	}
	blocks := cut(m.Length, s.size, s.block)
	if len(m.Symbol) != s.size || m.Block >= len(blocks) || m.Number >= blocks[m.Block]+s.spare {
		return api.ErrMessage
	}
	if length, is := s.lengths[m.Object]; is && length != m.Length {
		return api.ErrClash
	}
	s.known = max(s.known, m.Object+1)
	s.lengths[m.Object] = m.Length
	at := [2]int{m.Object, m.Block}
	same := func(come api.Message) bool { return come.Number == m.Number }
	if len(s.come[at]) < blocks[m.Block] && !slices.ContainsFunc(s.come[at], same) {
		s.come[at] = append(s.come[at], m)
	}
	return api.OK
}

func (s *slowReceiver) items() []api.Item {
	items := []api.Item{}
	for object := range s.known {
		length, is := s.lengths[object]
		if !is {
			items = append(items, api.Item{Object: object, Block: 0, Count: 0})
		}
		for block, k := range cut(length, s.size, s.block) {
			if come := len(s.come[[2]int{object, block}]); come < k {
				items = append(items, api.Item{Object: object, Block: block, Count: k - come})
			}
		}
	}
	return items
}

func (s *slowReceiver) request() string {
	items := s.items()
	if len(items) == 0 {
		return ""
	}
	return requestText(items[:min(len(items), api.MaxItems)])
}

func (s *slowReceiver) take() (string, bool) {
	length, is := s.lengths[s.taken]
	if !is || slices.ContainsFunc(s.items(), func(item api.Item) bool { return item.Object == s.taken }) {
		return "", false
	}
	object := ""
	for block := range cut(length, s.size, s.block) {
		numbers, symbols := []int{}, ""
		for _, m := range s.come[[2]int{s.taken, block}] {
			numbers = append(numbers, m.Number)
			symbols += m.Symbol
		}
		data, _ := reserve.Decode(numbers, symbols, s.size)
		object += data
	}
	s.taken++
	return object[:length], true
}

func mustReceiver(t *testing.T, size int, block int, spare int, texts ...string) *reserve.Receiver {
	t.Helper()
	r, e := reserve.NewReceiver(size, block, spare)
	if r == nil || e != api.OK {
		t.Fatalf("NewReceiver(%d, %d, %d) = %v, %d", size, block, spare, r, e)
	}
	wantHears(t, r, texts...)
	return r
}

// wantHears: all these are taken.
func wantHears(t *testing.T, r *reserve.Receiver, texts ...string) {
	t.Helper()
	for _, text := range texts {
		wantHear(t, r, text, api.OK)
	}
}

func wantKnown(t *testing.T, r *reserve.Receiver, want int) {
	t.Helper()
	if n := r.Known(); n != want {
		t.Errorf("Known() = %d, want %d", n, want)
	}
}

func wantRequest(t *testing.T, r *reserve.Receiver, want string) {
	t.Helper()
	if text := r.Request(); text != want {
		t.Errorf("Request() = %q, want %q", text, want)
	}
}

// wantItems: it asks for these.
func wantItems(t *testing.T, r *reserve.Receiver, items ...api.Item) {
	t.Helper()
	wantRequest(t, r, requestText(items))
}

// wantTake: these objects can be taken, one behind the other, and no more.
func wantTake(t *testing.T, r *reserve.Receiver, objects ...string) {
	t.Helper()
	for i, want := range objects {
		if object, is := r.Take(); object != want || !is {
			t.Errorf("object %d taken is %q, %v, want %q", i, object, is, want)
		}
	}
	for range 2 {
		if object, is := r.Take(); object != "" || is {
			t.Errorf("behind %d objects taken is %q, %v", len(objects), object, is)
		}
	}
}

// datums tells data of an object: for each of its blocks, in a layout with all spare symbols, the symbols of the numbers
// that are wanted of a block of k symbols.
func datums(object int, text string, size int, block int, wanted func(k int) []int) []string {
	s := newSlowSender(size, block, api.MaxSpare)
	s.enqueue(text)
	texts := []string{}
	for at, k := range cut(len(text), size, block) {
		for _, number := range wanted(k) {
			texts = append(texts, dataText(byte(object), byte(at), byte(number), len(text), s.symbols[[3]int{0, at, number}]))
		}
	}
	return texts
}

// whole tells data of an object: of each block as many symbols as it has, from its number first on.
func whole(object int, text string, size int, block int, first int) []string {
	return datums(object, text, size, block, func(k int) []int { return between(first, first+k) })
}

func TestP11EveryLimit(t *testing.T) {
	triedLayouts(func(size int, block int, spare int, want api.Errno) {
		r, e := reserve.NewReceiver(size, block, spare)
		if e != want || (r != nil) != (want == api.OK) {
			t.Fatalf("NewReceiver(%d, %d, %d) = %v, %d, want %d", size, block, spare, r, e, want)
		}
	})
}

func TestP11NoObjectsAtFirst(t *testing.T) {
	for _, c := range [][3]int{{1, 1, 0}, {16, 8, 8}, {1, 8, 0}, {16, 1, 8}} {
		r := mustReceiver(t, c[0], c[1], c[2])
		wantKnown(t, r, 0)
		wantRequest(t, r, "")
		wantTake(t, r)
	}
}

func TestP14Example(t *testing.T) {
	spare, _ := reserve.Encode("abcd", 2, 1)
	r := mustReceiver(t, 2, 2, 1, endText(1))
	wantKnown(t, r, 1)
	wantItems(t, r, api.Item{Object: 0, Block: 0, Count: 0})
	wantTake(t, r)
	wantHears(t, r, dataText(0, 0, 2, 5, spare), dataText(0, 1, 1, 5, "e\x00"))
	wantItems(t, r, api.Item{Object: 0, Block: 0, Count: 1})
	wantTake(t, r)
	wantHears(t, r, dataText(0, 0, 1, 5, "cd"))
	wantKnown(t, r, 1)
	wantRequest(t, r, "")
	wantTake(t, r, "abcde")
	wantRequest(t, r, "")
	wantKnown(t, r, 1)
}

// TestP12EveryEnd: one end behind the other, of any two numbers, the greater one counts; all that is not known is asked
// for.
func TestP12EveryEnd(t *testing.T) {
	for first := range api.MaxObjects + 1 {
		for second := range api.MaxObjects + 1 {
			r := mustReceiver(t, 3, 2, 1, endText(first))
			wantKnown(t, r, first)
			wantHears(t, r, endText(second))
			wantKnown(t, r, max(first, second))
			items := []api.Item{}
			for object := range max(first, second) {
				items = append(items, api.Item{Object: object})
			}
			if len(items) == 0 {
				wantRequest(t, r, "")
			} else {
				wantItems(t, r, items...)
			}
			wantTake(t, r)
		}
	}
}

// TestP12EndAndData: data of an object tells of those ahead of it, too, and an end of fewer takes nothing back.
func TestP12EndAndData(t *testing.T) {
	for objects := range api.MaxObjects + 1 {
		for object := range api.MaxObjects {
			data := dataText(byte(object), 0, 0, 2, "a")
			for _, texts := range [][]string{{endText(objects), data}, {data, endText(objects)}} {
				r := mustReceiver(t, 1, 2, 0, texts...)
				known := max(objects, object+1)
				wantKnown(t, r, known)
				items := make([]api.Item, known)
				for i := range items {
					items[i].Object = i
				}
				items[object].Count = 1
				wantItems(t, r, items...)
			}
		}
	}
}

// TestP12EverySize: only symbols of the receiver's size are taken.
func TestP12EverySize(t *testing.T) {
	for size := 1; size <= api.MaxSize; size++ {
		for n := range 2*api.MaxSize + 1 {
			r := mustReceiver(t, size, 8, 8)
			text := dataText(0, 0, 0, size+1, strings.Repeat("x", n))
			if n == size {
				wantHear(t, r, text, api.OK)
				wantKnown(t, r, 1)
			} else {
				wantHear(t, r, text, api.ErrMessage)
				wantKnown(t, r, 0)
			}
		}
	}
}

// TestP12EveryBlockAndNumber: about the limits that an object's length sets, in every layout.
func TestP12EveryBlockAndNumber(t *testing.T) {
	r := rand.New(rand.NewSource(12))
	for size := 1; size <= api.MaxSize; size++ {
		symbol := strings.Repeat("x", size)
		for block := 1; block <= api.MaxBlock; block++ {
			for spare := 0; spare <= api.MaxSpare; spare++ {
				for _, length := range []int{1, size, size + 1, size * block, min(size*block+1, api.MaxObject), 1 + r.Intn(api.MaxObject), api.MaxObject} {
					lengths := cut(length, size, block)
					for _, at := range []int{0, len(lengths) - 2, len(lengths) - 1, len(lengths), 255} {
						if at < 0 || at > 255 {
							continue
						}
						for number := range allNumbers {
							want, known := api.ErrMessage, 0
							if at < len(lengths) && number < lengths[at]+spare {
								want, known = api.OK, 4
							}
							q := mustReceiver(t, size, block, spare)
							wantHear(t, q, dataText(3, byte(at), byte(number), length, symbol), want)
							wantKnown(t, q, known)
						}
					}
				}
			}
		}
	}
}

// TestP12MostBlocks: an object can have so many blocks that the last has the greatest number a message can tell.
func TestP12MostBlocks(t *testing.T) {
	text := anyText(rand.New(rand.NewSource(256)), api.MaxObject)
	r := mustReceiver(t, 1, 1, 0)
	for at := api.MaxObject - 1; at >= 0; at-- {
		wantTake(t, r)
		wantHears(t, r, dataText(0, byte(at), 0, api.MaxObject, text[at:at+1]))
	}
	wantRequest(t, r, "")
	wantTake(t, r, text)
}

// TestP12NoSuchNumber: the last block's own symbols count, not those of a full one.
func TestP12NoSuchNumber(t *testing.T) {
	r := mustReceiver(t, 1, 4, 2)
	wantHear(t, r, dataText(0, 1, 3, 5, "x"), api.ErrMessage)
	wantHear(t, r, dataText(0, 0, 6, 5, "x"), api.ErrMessage)
	wantKnown(t, r, 0)
	wantHears(t, r, dataText(0, 1, 2, 5, "x"), dataText(0, 0, 5, 5, "x"))
	wantItems(t, r, api.Item{Object: 0, Block: 0, Count: 3})
}

// TestP12EveryClash: of any two lengths, the one that comes first counts, whatever stands between.
func TestP12EveryClash(t *testing.T) {
	for first := 1; first <= api.MaxObject; first++ {
		for second := 1; second <= api.MaxObject; second++ {
			r := mustReceiver(t, 2, 2, 1, dataText(1, 0, 0, first, "ab"))
			before := r.Request()
			want := api.OK
			if second != first {
				want = api.ErrClash
			}
			wantHear(t, r, dataText(1, 0, 1, second, "cd"), want)
			if want == api.ErrClash {
				wantRequest(t, r, before)
				wantKnown(t, r, 2)
			}
		}
	}
}

// TestP12ClashAtAnyTime: when the object is not complete, when it is, and when it was taken; other objects may have
// that length.
func TestP12ClashAtAnyTime(t *testing.T) {
	r := mustReceiver(t, 1, 2, 1, dataText(0, 0, 0, 3, "a"), endText(1))
	clash := func() {
		wantHear(t, r, dataText(0, 0, 1, 4, "x"), api.ErrClash)
		wantHear(t, r, dataText(0, 0, 1, 2, "x"), api.ErrClash)
		wantHear(t, r, dataText(0, 1, 0, 4, "x"), api.ErrClash)
		wantHear(t, r, dataText(0, 2, 0, 5, "x"), api.ErrClash)
	}
	clash()
	wantItems(t, r, api.Item{Object: 0, Block: 0, Count: 1}, api.Item{Object: 0, Block: 1, Count: 1})
	wantHears(t, r, dataText(1, 0, 0, 4, "w"), dataText(0, 0, 1, 3, "b"), dataText(0, 1, 0, 3, "c"))
	clash()
	wantItems(t, r, api.Item{Object: 1, Block: 0, Count: 1}, api.Item{Object: 1, Block: 1, Count: 2})
	wantTake(t, r, "abc")
	clash()
	wantHears(t, r, dataText(0, 0, 0, 3, "?"), endText(2))
	clash()
	wantKnown(t, r, 2)
	wantItems(t, r, api.Item{Object: 1, Block: 0, Count: 1}, api.Item{Object: 1, Block: 1, Count: 2})
	wantTake(t, r)
}

// TestP12NoMessageAheadOfClash: what may not be in an object of the length that is told is no message for the receiver,
// whatever length it has heard.
func TestP12NoMessageAheadOfClash(t *testing.T) {
	r := mustReceiver(t, 1, 2, 1, dataText(0, 0, 0, 3, "a"))
	for _, text := range []string{dataText(0, 2, 0, 4, "x"), dataText(0, 0, 3, 4, "x"), dataText(0, 0, 0, 4, "xy"), dataText(0, 1, 0, 2, "x"), dataText(0, 0, 2, 1, "x"), dataText(0, 0, 0, 257, "x"), dataText(0, 0, 0, 0, "x")} {
		wantHear(t, r, text, api.ErrMessage)
	}
	wantHear(t, r, dataText(0, 0, 2, 4, "x"), api.ErrClash)
	wantHear(t, r, dataText(0, 0, 1, 1, "x"), api.ErrClash)
	wantItems(t, r, api.Item{Object: 0, Block: 0, Count: 1}, api.Item{Object: 0, Block: 1, Count: 1})
}

// TestP12RefusedLengthIsNotHeard: data that is refused leaves the length open.
func TestP12RefusedLengthIsNotHeard(t *testing.T) {
	r := mustReceiver(t, 1, 2, 1, endText(1))
	wantHear(t, r, dataText(0, 9, 0, 4, "x"), api.ErrMessage)
	wantHear(t, r, dataText(0, 0, 3, 4, "x"), api.ErrMessage)
	wantItems(t, r, api.Item{Object: 0, Block: 0, Count: 0})
	wantHears(t, r, dataText(0, 0, 0, 1, "a"))
	wantTake(t, r, "a")
}

// TestP12SameNumberAgain: the first symbol of a number counts, whatever comes again.
func TestP12SameNumberAgain(t *testing.T) {
	for k := 1; k <= api.MaxBlock; k++ {
		text := "abcdefgh"[:k]
		texts := whole(0, text, 1, k, 5)
		r := mustReceiver(t, 1, k, 8)
		for come := range k {
			wantHears(t, r, texts[come])
			for number := range come + 1 {
				wantHears(t, r, dataText(0, 0, byte(number+5), k, "?"))
			}
			if come+1 < k {
				wantItems(t, r, api.Item{Object: 0, Block: 0, Count: k - come - 1})
				wantTake(t, r)
			}
		}
		wantRequest(t, r, "")
		wantTake(t, r, text)
	}
}

// TestP12NoMoreThanItTakes: when a block is complete, no further symbol counts, whatever its number.
func TestP12NoMoreThanItTakes(t *testing.T) {
	for k := 1; k <= api.MaxBlock; k++ {
		text := "abcdefgh"[:k]
		r := mustReceiver(t, 1, k, 8)
		wantHears(t, r, whole(0, text, 1, k, 3)...)
		for number := range k + 8 {
			wantHears(t, r, dataText(0, 0, byte(number), k, "?"))
			wantRequest(t, r, "")
		}
		wantTake(t, r, text)
		for number := range k + 8 {
			wantHears(t, r, dataText(0, 0, byte(number), k, "?"))
			wantRequest(t, r, "")
		}
		wantTake(t, r)
		wantKnown(t, r, 1)
	}
}

// TestP12BlocksAndObjectsApart: the same number of another block or object is another symbol.
func TestP12BlocksAndObjectsApart(t *testing.T) {
	r := mustReceiver(t, 1, 2, 1, dataText(0, 0, 0, 4, "a"), dataText(1, 0, 0, 4, "e"))
	wantItems(t, r, api.Item{Object: 0, Block: 0, Count: 1}, api.Item{Object: 0, Block: 1, Count: 2}, api.Item{Object: 1, Block: 0, Count: 1}, api.Item{Object: 1, Block: 1, Count: 2})
	wantHears(t, r, dataText(0, 1, 0, 4, "c"), dataText(1, 1, 1, 4, "h"), dataText(1, 0, 1, 4, "f"))
	wantItems(t, r, api.Item{Object: 0, Block: 0, Count: 1}, api.Item{Object: 0, Block: 1, Count: 1}, api.Item{Object: 1, Block: 1, Count: 1})
	wantHears(t, r, dataText(1, 1, 0, 4, "g"), dataText(0, 0, 1, 4, "b"), dataText(0, 1, 1, 4, "d"))
	wantRequest(t, r, "")
	wantTake(t, r, "abcd", "efgh")
}

// noData has texts that a receiver of size 1, block 3 and spare 2 refuses, though most are near what it takes.
func noData() []string {
	texts := slices.DeleteFunc(noRequests(), func(text string) bool {
		m, e := reserve.Read(text)
		return e == api.OK && (m.Kind == api.End || m.Kind == api.Data)
	})
	texts = append(texts, asking(api.Item{}), asking(api.Item{Count: 1}, api.Item{Block: 1, Count: 1}), checked("E"), checked("E\x09"), checked("E\xff"), checked("E\x01\x00"), checked("e\x01"), checked("D"), checked("D\x00\x00\x00\x00\x05"), checked("d\x00\x00\x00\x00\x05a"))
	for _, c := range []struct {
		object, block, number byte
		length                int
		symbol                string
	}{{8, 0, 0, 5, "a"}, {255, 0, 0, 5, "a"}, {0, 2, 0, 5, "a"}, {0, 255, 0, 5, "a"}, {0, 0, 5, 5, "a"}, {0, 1, 4, 5, "a"}, {0, 0, 15, 5, "a"}, {0, 0, 16, 5, "a"}, {0, 0, 255, 5, "a"}, {0, 0, 0, 0, "a"}, {0, 0, 0, 257, "a"}, {0, 0, 0, 65535, "a"}, {0, 0, 0, 5, ""}, {0, 0, 0, 5, "ab"}, {0, 0, 0, 5, strings.Repeat("a", 16)}, {0, 0, 0, 5, strings.Repeat("a", 17)}, {7, 1, 0, 3, "a"}} {
		texts = append(texts, dataText(c.object, c.block, c.number, c.length, c.symbol))
	}
	for _, text := range []string{endText(3), dataText(0, 1, 1, 5, "x"), dataText(4, 0, 2, 5, "y")} {
		texts = append(texts, spoilt(text)...)
		texts = append(texts, strings.Repeat(text, 100000))
	}
	return texts
}

// TestP12Refused: what is no data and no end for this receiver changes nothing, whatever has come.
func TestP12Refused(t *testing.T) {
	texts := noData()
	r := mustReceiver(t, 1, 3, 2)
	refuse := func(known int, request string) {
		t.Helper()
		for _, text := range texts {
			wantHear(t, r, text, api.ErrMessage)
		}
		wantKnown(t, r, known)
		wantRequest(t, r, request)
	}
	refuse(0, "")
	wantHears(t, r, endText(1))
	refuse(1, asking(api.Item{}))
	wantHears(t, r, dataText(0, 0, 0, 5, "a"))
	refuse(1, asking(api.Item{Count: 2}, api.Item{Block: 1, Count: 2}))
	wantHears(t, r, dataText(0, 0, 1, 5, "b"), dataText(0, 0, 2, 5, "c"))
	refuse(1, asking(api.Item{Block: 1, Count: 2}))
	wantTake(t, r)
	wantHears(t, r, dataText(0, 1, 0, 5, "d"), dataText(0, 1, 1, 5, "e"))
	refuse(1, "")
	wantTake(t, r, "abcde")
	refuse(1, "")
	wantTake(t, r)
}

// TestP12NotRequests: receivers that hear one another's requests, or their own, learn nothing from them.
func TestP12NotRequests(t *testing.T) {
	r := mustReceiver(t, 1, 2, 1, endText(3))
	other := mustReceiver(t, 1, 2, 1)
	for _, h := range []hearer{r, other} {
		wantHear(t, h, r.Request(), api.ErrMessage)
	}
	wantKnown(t, r, 3)
	wantKnown(t, other, 0)
	wantHear(t, r, other.Request(), api.ErrMessage)
}

// TestP13EveryChoice: any as many of a block's symbols as it has give it back.
func TestP13EveryChoice(t *testing.T) {
	for _, c := range []struct {
		k, spare int
		text     string
	}{{1, 8, "ab"}, {2, 3, "abcd"}, {3, 3, "abcde"}, {4, 4, "abcdefgh"}, {8, 2, "abcdefghijklmnop"}} {
		all := datums(0, c.text, 2, c.k, func(k int) []int { return between(0, k+c.spare) })
		for chosen := range 1 << (c.k + c.spare) {
			texts := []string{}
			for number, text := range all {
				if chosen>>number&1 == 1 {
					texts = append(texts, text)
				}
			}
			if len(texts) != c.k {
				continue
			}
			if chosen%2 == 1 {
				slices.Reverse(texts)
			}
			wantTake(t, mustReceiver(t, 2, c.k, c.spare, texts...), c.text)
		}
	}
}

// TestP13EveryLayoutAndLength: objects of any length, of any symbols in any order, in every layout.
func TestP13EveryLayoutAndLength(t *testing.T) {
	r := rand.New(rand.NewSource(13))
	for size := 1; size <= api.MaxSize; size++ {
		for block := 1; block <= api.MaxBlock; block++ {
			for spare := 0; spare <= api.MaxSpare; spare++ {
				for _, length := range []int{1, size * block, 1 + r.Intn(api.MaxObject), 1 + r.Intn(api.MaxObject), api.MaxObject} {
					object := anyText(r, length)
					s := newSlowSender(size, block, spare)
					s.enqueue(object)
					texts := []string{}
					for at, k := range cut(length, size, block) {
						for _, number := range r.Perm(k + spare)[:k] {
							texts = append(texts, s.text([3]int{0, at, number}))
						}
					}
					r.Shuffle(len(texts), func(i, j int) { texts[i], texts[j] = texts[j], texts[i] })
					last := len(texts) - 1
					q := mustReceiver(t, size, block, spare, texts[:last]...)
					wantTake(t, q)
					wantHears(t, q, texts[last])
					wantRequest(t, q, "")
					wantTake(t, q, object)
				}
			}
		}
	}
}

func TestP13EveryLength(t *testing.T) {
	r := rand.New(rand.NewSource(256))
	for length := 1; length <= api.MaxObject; length++ {
		object := anyText(r, length)
		for _, c := range [][2]int{{1, 1}, {5, 3}, {16, 8}, {16, 1}} {
			wantTake(t, mustReceiver(t, c[0], c[1], 8, whole(0, object, c[0], c[1], 4)...), object)
		}
	}
}

// TestP13WhatStandsBehindTheEnd: bytes of the last symbol that are not the object's are left out, whatever they are; in
// the object itself bytes 0 stay.
func TestP13WhatStandsBehindTheEnd(t *testing.T) {
	wantTake(t, mustReceiver(t, 4, 2, 1, dataText(0, 0, 0, 5, "abcd"), dataText(0, 0, 1, 5, "efgh")), "abcde")
	wantTake(t, mustReceiver(t, 4, 1, 1, dataText(0, 0, 1, 1, "\x00bcd")), "\x00")
	wantTake(t, mustReceiver(t, 2, 2, 1, dataText(0, 0, 0, 4, "\x00\x00"), dataText(0, 0, 1, 4, "a\x00")), "\x00\x00a\x00")
}

// TestP13FirstToComeCount: symbols that are not of one block give the block of the first ones, by their numbers.
func TestP13FirstToComeCount(t *testing.T) {
	r := mustReceiver(t, 1, 2, 2, dataText(0, 0, 3, 2, "\x11"), dataText(0, 0, 1, 2, "\x09"), dataText(0, 0, 0, 2, "\xff"), dataText(0, 0, 2, 2, "\xff"))
	wantTake(t, r, "\x05\x09")
}

// TestP13InTheirOrder: what is complete waits for those ahead of it, and then all can be taken.
func TestP13InTheirOrder(t *testing.T) {
	objects := []string{"the first", "2nd", "a third one", "last"}
	for _, order := range [][]int{{0, 1, 2, 3}, {3, 2, 1, 0}, {1, 0, 3, 2}, {2, 3, 1, 0}, {0, 2, 3, 1}, {1, 2, 3, 0}} {
		r := mustReceiver(t, 2, 2, 8)
		come, taken := map[int]bool{}, 0
		for _, object := range order {
			wantHears(t, r, whole(object, objects[object], 2, 2, 1)...)
			come[object] = true
			end := taken
			for come[end] {
				end++
			}
			wantTake(t, r, objects[taken:end]...)
			taken = end
		}
		wantTake(t, r)
		wantKnown(t, r, 4)
	}
}

// TestP13TakenOnce: an object is not taken twice, though it is heard again from its beginning.
func TestP13TakenOnce(t *testing.T) {
	r := mustReceiver(t, 2, 2, 8, whole(0, "abcde", 2, 2, 0)...)
	wantTake(t, r, "abcde")
	wantHears(t, r, whole(0, "abcde", 2, 2, 0)...)
	wantHears(t, r, whole(0, "abcde", 2, 2, 1)...)
	wantTake(t, r)
	wantHears(t, r, endText(2))
	wantItems(t, r, api.Item{Object: 1})
	wantTake(t, r)
	wantHears(t, r, whole(1, "abcde", 2, 2, 0)...)
	wantTake(t, r, "abcde")
}

// TestP13AllObjects: as many as there can be, the greatest there are.
func TestP13AllObjects(t *testing.T) {
	random := rand.New(rand.NewSource(8))
	for _, c := range [][2]int{{1, 1}, {16, 8}, {7, 5}} {
		r := mustReceiver(t, c[0], c[1], 8)
		objects := []string{}
		for object := range api.MaxObjects {
			objects = append(objects, anyText(random, api.MaxObject))
			wantHears(t, r, whole(object, objects[object], c[0], c[1], 2)...)
		}
		wantKnown(t, r, api.MaxObjects)
		wantRequest(t, r, "")
		wantTake(t, r, objects...)
		wantRequest(t, r, "")
		wantKnown(t, r, api.MaxObjects)
	}
}

// TestP14Lacking: how many symbols are lacking, for blocks of each number of symbols, the shorter last one too.
func TestP14Lacking(t *testing.T) {
	for k := 1; k <= api.MaxBlock; k++ {
		for last := 1; last <= k; last++ {
			length := k + last
			r := mustReceiver(t, 1, k, 8, dataText(0, 0, 3, length, "x"))
			for first := 1; first < k; first++ {
				wantItems(t, r, api.Item{Block: 0, Count: k - first}, api.Item{Block: 1, Count: last})
				wantHears(t, r, dataText(0, 0, byte(3+first), length, "x"))
			}
			for second := range last {
				wantItems(t, r, api.Item{Block: 1, Count: last - second})
				wantHears(t, r, dataText(0, 1, byte(second), length, "x"))
			}
			wantRequest(t, r, "")
		}
	}
}

// TestP14FirstItems: no more than a request can have, and those are the first, whether of objects or of blocks.
func TestP14FirstItems(t *testing.T) {
	for blocks := 1; blocks <= 20; blocks++ {
		for ahead := range api.MaxObjects - 1 {
			r := mustReceiver(t, 1, 2, 0, dataText(byte(ahead), 0, 0, 2*blocks, "x"), endText(ahead+2))
			items := []api.Item{}
			for object := range ahead {
				items = append(items, api.Item{Object: object})
			}
			items = append(items, api.Item{Object: ahead, Block: 0, Count: 1})
			for at := 1; at < blocks; at++ {
				items = append(items, api.Item{Object: ahead, Block: at, Count: 2})
			}
			items = append(items, api.Item{Object: ahead + 1})
			wantItems(t, r, items[:min(len(items), api.MaxItems)]...)
		}
	}
}

// TestP14ItemsGoOn: what is complete gives its place in the request to what stands behind.
func TestP14ItemsGoOn(t *testing.T) {
	r := mustReceiver(t, 1, 1, 0, dataText(0, 0, 0, 20, "x"), endText(2))
	lacking := between(1, 20)
	for len(lacking) > 0 {
		items := []api.Item{}
		for _, at := range lacking {
			items = append(items, api.Item{Object: 0, Block: at, Count: 1})
		}
		items = append(items, api.Item{Object: 1})
		wantItems(t, r, items[:min(len(items), api.MaxItems)]...)
		gone := len(lacking) / 2
		wantHears(t, r, dataText(0, byte(lacking[gone]), 0, 20, "x"))
		lacking = slices.Delete(lacking, gone, gone+1)
	}
	wantItems(t, r, api.Item{Object: 1})
}

// TestP14TakenOrNotItIsComplete: an object that is complete is not asked for, taken or not.
func TestP14TakenOrNotItIsComplete(t *testing.T) {
	r := mustReceiver(t, 2, 2, 8, whole(1, "abcde", 2, 2, 0)...)
	wantItems(t, r, api.Item{Object: 0})
	wantHears(t, r, whole(0, "fgh", 2, 2, 0)...)
	wantRequest(t, r, "")
	wantTake(t, r, "fgh", "abcde")
	wantRequest(t, r, "")
	wantHears(t, r, endText(3))
	wantItems(t, r, api.Item{Object: 2})
}

// TestP2KnownAndRequestChangeNothing: however often they are called, they answer the same, and what comes goes on.
func TestP2KnownAndRequestChangeNothing(t *testing.T) {
	r := mustReceiver(t, 2, 2, 8)
	ask := func(known int, request string) {
		for range 50 {
			wantKnown(t, r, known)
			wantRequest(t, r, request)
		}
	}
	ask(0, "")
	wantHears(t, r, endText(1))
	ask(1, asking(api.Item{}))
	texts := whole(0, "abcdefg", 2, 2, 0)
	wantHears(t, r, texts[0])
	ask(1, asking(api.Item{Count: 1}, api.Item{Block: 1, Count: 2}))
	wantHears(t, r, texts[2:]...)
	ask(1, asking(api.Item{Count: 1}))
	wantHears(t, r, texts[1])
	ask(1, "")
	wantTake(t, r, "abcdefg")
	ask(1, "")
}

// turned tells the text with some bit of it turned.
func turned(r *rand.Rand, text string) string {
	bytes := []byte(text)
	bytes[r.Intn(len(bytes))] ^= 1 << r.Intn(8)
	return string(bytes)
}

// anyMessage makes what a receiver of the slow sender's layout may hear: mostly data of its objects, sometimes an end, a
// spoilt text, or data that no such sender sends.
func anyMessage(r *rand.Rand, s *slowSender) string {
	object := r.Intn(len(s.objects))
	length := len(s.objects[object])
	blocks := cut(length, s.size, s.block)
	at := r.Intn(len(blocks))
	number := r.Intn(blocks[at] + s.spare)
	switch r.Intn(20) {
	case 0:
		return endText(r.Intn(api.MaxObjects + 1))
	case 1:
		return requestText(anyItems(r))
	case 2:
		return turned(r, s.text([3]int{object, at, number}))
	case 3:
		return dataText(byte(object), byte(at), byte(number), 1+r.Intn(api.MaxObject), anyText(r, s.size))
	case 4:
		return dataText(byte(object), byte(r.Intn(len(blocks)+2)), byte(r.Intn(allNumbers)), length, anyText(r, s.size))
	case 5:
		return dataText(byte(r.Intn(api.MaxObjects+1)), byte(r.Intn(3)), byte(number), length, anyText(r, 1+r.Intn(api.MaxSize)))
	}
	return s.text([3]int{object, at, number})
}

// hearBoth lets both receivers hear a text, and sometimes be taken from; what they answer is the same.
func hearBoth(t *testing.T, r *rand.Rand, q *reserve.Receiver, slow *slowReceiver, text string) {
	t.Helper()
	wantHear(t, q, text, slow.hear(text))
	if r.Intn(3) == 0 {
		wantKnown(t, q, slow.known)
		wantRequest(t, q, slow.request())
	}
	if r.Intn(5) == 0 {
		want, wantIs := slow.take()
		if object, is := q.Take(); object != want || is != wantIs {
			t.Errorf("Take() = %q, %v, want %q, %v", object, is, want, wantIs)
		}
	}
}

// someObjects makes a slow sender with objects; they are few or short, so that some become complete.
func someObjects(r *rand.Rand, size int, block int, spare int) *slowSender {
	s := newSlowSender(size, block, spare)
	for range 1 + r.Intn(api.MaxObjects) {
		s.enqueue(anyText(r, 1+r.Intn(1+r.Intn(min(api.MaxObject, 4*size*block)))))
	}
	return s
}

// TestP12AnyCourse: messages of any kind in any order, in every layout.
func TestP12AnyCourse(t *testing.T) {
	r := rand.New(rand.NewSource(1212))
	for size := 1; size <= api.MaxSize; size++ {
		for block := 1; block <= api.MaxBlock; block++ {
			for spare := 0; spare <= api.MaxSpare; spare++ {
				s := someObjects(r, size, block, spare)
				q, slow := mustReceiver(t, size, block, spare), newSlowReceiver(size, block, spare)
				for range 300 {
					hearBoth(t, r, q, slow, anyMessage(r, s))
				}
			}
		}
	}
}

// TestP2ReceiversSideBySide: each goes its own course, as if it were alone, though they hear of the same objects.
func TestP2ReceiversSideBySide(t *testing.T) {
	r := rand.New(rand.NewSource(22))
	for range 20 {
		s := someObjects(r, 2, 3, 2)
		receivers, slows := []*reserve.Receiver{}, []*slowReceiver{}
		for range 5 {
			receivers = append(receivers, mustReceiver(t, 2, 3, 2))
			slows = append(slows, newSlowReceiver(2, 3, 2))
		}
		for range 1000 {
			i := r.Intn(len(receivers))
			hearBoth(t, r, receivers[i], slows[i], anyMessage(r, s))
		}
	}
}

// TestP2ReceiverKeepsNoBytesOfTheCaller: what the caller does with the bytes that a message was made of changes nothing.
func TestP2ReceiverKeepsNoBytesOfTheCaller(t *testing.T) {
	r := mustReceiver(t, 1, 2, 1)
	text := []byte{}
	for _, message := range []string{dataText(0, 0, 0, 2, "a"), dataText(0, 0, 1, 2, "b")} {
		text = append(text[:0], message...)
		wantHears(t, r, string(text))
		for i := range text {
			text[i] = '?'
		}
	}
	wantTake(t, r, "ab")
}

// TestP13Journey: from a sender to several receivers, over a network that loses, doubles, delays and spoils: in the end
// all have all objects, for they ask for what they lack.
func TestP13Journey(t *testing.T) {
	r := rand.New(rand.NewSource(131313))
	for size := 1; size <= api.MaxSize; size += 3 {
		for block := 1; block <= api.MaxBlock; block++ {
			for _, spare := range []int{0, 1, 3, 8} {
				journey(t, r, size, block, spare)
			}
		}
	}
}

func journey(t *testing.T, r *rand.Rand, size int, block int, spare int) {
	t.Helper()
	objects := []string{}
	for range 1 + r.Intn(4) {
		objects = append(objects, anyText(r, 1+r.Intn(100)))
	}
	s := mustSender(t, size, block, spare, objects...)
	receivers := []*reserve.Receiver{mustReceiver(t, size, block, spare), mustReceiver(t, size, block, spare), mustReceiver(t, size, block, spare)}
	sent := []string{}
	for round := 0; lackSomething(receivers, len(objects)); round++ {
		if round > 10000 {
			t.Fatalf("size %d, block %d, spare %d: something is lacking still", size, block, spare)
		}
		for range 20 {
			sent = append(sent, s.Next())
			for _, q := range receivers {
				text := sent[max(0, len(sent)-1-r.Intn(5))]
				switch r.Intn(4) {
				case 0: // it is lost
				case 1:
					wantHear(t, q, turned(r, text), api.ErrMessage)
				default:
					wantHear(t, q, text, api.OK)
				}
			}
		}
		for _, q := range receivers {
			if request := q.Request(); request != "" && r.Intn(2) == 0 {
				wantHear(t, s, request, api.OK)
			}
		}
	}
	for _, q := range receivers {
		wantTake(t, q, objects...)
	}
}

func lackSomething(receivers []*reserve.Receiver, objects int) bool {
	return slices.ContainsFunc(receivers, func(q *reserve.Receiver) bool {
		return q.Known() < objects || q.Request() != ""
	})
}
