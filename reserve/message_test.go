package reserve_test

import (
	"math"
	"math/rand"
	"slices"
	"strings"
	"testing"

	"reserve/api"
	"reserve/reserve"
)

// beyond are numbers that no field of a message can be; cut down to a byte or two, some of them could.
var beyond = []int{-1, -2, -8, -255, -256, -65535, -65536, 65536, 65537, 1 << 31, 1 << 32, 1<<32 + 1, 1 << 62, 1<<62 + 1, math.MinInt, math.MinInt + 1, math.MaxInt}

// between tells the numbers from first on, below end.
func between(first int, end int) []int {
	numbers := []int{}
	for n := first; n < end; n++ {
		numbers = append(numbers, n)
	}
	return numbers
}

// checked tells a text with its check behind it.
func checked(body string) string {
	h := slowSum(body)
	return body + string([]byte{byte(h / 256), byte(h % 256)})
}

func dataText(object byte, block byte, number byte, length int, symbol string) string {
	return checked(string([]byte{'D', object, block, number, byte(length / 256), byte(length % 256)}) + symbol)
}

func requestText(items []api.Item) string {
	body := []byte{'R', byte(len(items))}
	for _, item := range items {
		body = append(body, byte(item.Object), byte(item.Block), byte(item.Count))
	}
	return checked(string(body))
}

func sameMessage(a api.Message, b api.Message) bool {
	return a.Kind == b.Kind && a.Object == b.Object && a.Block == b.Block && a.Number == b.Number && a.Length == b.Length &&
		a.Symbol == b.Symbol && slices.Equal(a.Items, b.Items) && a.Objects == b.Objects
}

func wantWrite(t *testing.T, m api.Message, want string, wantErr api.Errno) {
	t.Helper()
	if s, e := reserve.Write(m); s != want || e != wantErr {
		t.Errorf("Write(%#v) = %q, %d, want %q, %d", m, s, e, want, wantErr)
	}
}

func wantRead(t *testing.T, text string, want api.Message, wantErr api.Errno) {
	t.Helper()
	if m, e := reserve.Read(text); !sameMessage(m, want) || e != wantErr {
		t.Errorf("Read(%.60q) = %#v, %d, want %#v, %d", text, m, e, want, wantErr)
	}
}

func wantBoth(t *testing.T, m api.Message, text string) {
	t.Helper()
	wantWrite(t, m, text, api.OK)
	wantRead(t, text, m, api.OK)
}

func wantNoWrite(t *testing.T, m api.Message) {
	t.Helper()
	wantWrite(t, m, "", api.ErrMessage)
}

func wantNoRead(t *testing.T, text string) {
	t.Helper()
	wantRead(t, text, api.Message{}, api.ErrMessage)
}

// someMessages has one of each kind, and of each kind the least and the greatest.
func someMessages() []api.Message {
	greatest := slices.Repeat([]api.Item{{Object: api.MaxObjects - 1, Block: 255, Count: api.MaxBlock}}, api.MaxItems)
	return []api.Message{
		{Kind: api.Data, Object: 1, Block: 2, Number: 3, Length: 45, Symbol: "xy"},
		{Kind: api.Data, Length: 1, Symbol: "\x00"},
		{Kind: api.Data, Object: api.MaxObjects - 1, Block: 255, Number: allNumbers - 1, Length: api.MaxObject, Symbol: strings.Repeat("\xff", api.MaxSize)},
		{Kind: api.Request, Items: []api.Item{{Object: 1, Block: 2, Count: 3}, {Object: 4, Block: 5, Count: 6}}},
		{Kind: api.Request, Items: []api.Item{{}}},
		{Kind: api.Request, Items: greatest},
		{Kind: api.End, Objects: 2},
		{Kind: api.End},
		{Kind: api.End, Objects: api.MaxObjects},
	}
}

func TestP6Examples(t *testing.T) {
	wantBoth(t, api.Message{Kind: api.End, Objects: 2}, checked("E\x02"))
	wantBoth(t, api.Message{Kind: api.Data, Object: 1, Block: 2, Number: 3, Length: 45, Symbol: "xy"}, checked("D\x01\x02\x03\x00\x2dxy"))
	wantBoth(t, api.Message{Kind: api.Data, Length: api.MaxObject, Symbol: "D"}, checked("D\x00\x00\x00\x01\x00D"))
	wantBoth(t, api.Message{Kind: api.Request, Items: []api.Item{{Object: 1, Block: 2, Count: 3}, {Object: 4, Block: 5, Count: 6}}}, checked("R\x02\x01\x02\x03\x04\x05\x06"))
}

// TestP6Check: the check is that of what stands ahead of it, the high byte first; these few were worked out apart from
// the program and its tests.
func TestP6Check(t *testing.T) {
	wantBoth(t, api.Message{Kind: api.End, Objects: 2}, "E\x02\xcf\x74")
	wantBoth(t, api.Message{Kind: api.Request, Items: []api.Item{{}}}, "R\x01\x00\x00\x00\x36\x09")
	wantBoth(t, api.Message{Kind: api.Data, Object: 1, Block: 2, Number: 3, Length: 45, Symbol: "xy"}, "D\x01\x02\x03\x00\x2dxy\xbf\xa9")
	for _, m := range someMessages() {
		text, _ := reserve.Write(m)
		if len(text) < 2 {
			t.Fatalf("Write(%#v) = %q", m, text)
		}
		end := len(text) - 2
		if h := slowSum(text[:end]); text[end] != byte(h>>8) || text[end+1] != byte(h&255) {
			t.Errorf("Write(%#v) = %q, with the check %d", m, text, h)
		}
	}
}

func TestP6EveryPlaceOfData(t *testing.T) {
	for object := range api.MaxObjects {
		for block := range 256 {
			for number := range allNumbers {
				m := api.Message{Kind: api.Data, Object: object, Block: block, Number: number, Length: 200, Symbol: "abc"}
				wantBoth(t, m, dataText(byte(object), byte(block), byte(number), 200, "abc"))
			}
		}
	}
}

func TestP6EveryLengthAndSymbolSize(t *testing.T) {
	r := rand.New(rand.NewSource(6))
	for length := 1; length <= api.MaxObject; length++ {
		for size := 1; size <= api.MaxSize; size++ {
			symbol := make([]byte, size)
			r.Read(symbol)
			m := api.Message{Kind: api.Data, Object: 5, Block: 200, Number: 9, Length: length, Symbol: string(symbol)}
			wantBoth(t, m, dataText(5, 200, 9, length, string(symbol)))
		}
	}
}

// TestP6SymbolsOfAnyBytes: a symbol may look like a message or its end.
func TestP6SymbolsOfAnyBytes(t *testing.T) {
	symbols := []string{"\x00\x00", "\xff\xff", checked("E\x02"), checked(""), "R\x01\x00\x00\x00", "\x80\xfe"}
	for b := range 256 {
		symbols = append(symbols, string([]byte{byte(b)}), string([]byte{0, byte(b)}), string([]byte{byte(b), 0}))
	}
	for _, symbol := range symbols {
		wantBoth(t, api.Message{Kind: api.Data, Length: 7, Symbol: symbol}, dataText(0, 0, 0, 7, symbol))
	}
}

func TestP6EveryItem(t *testing.T) {
	for object := range api.MaxObjects {
		for block := range 256 {
			for count := 0; count <= api.MaxBlock; count++ {
				item := api.Item{Object: object, Block: block, Count: count}
				wantBoth(t, api.Message{Kind: api.Request, Items: []api.Item{item}}, requestText([]api.Item{item}))
			}
		}
	}
}

// TestP6EveryNumberOfItems: in any order, some of them twice.
func TestP6EveryNumberOfItems(t *testing.T) {
	r := rand.New(rand.NewSource(66))
	for n := 1; n <= api.MaxItems; n++ {
		for range 200 {
			items := make([]api.Item, n)
			for i := range items {
				items[i] = api.Item{Object: r.Intn(api.MaxObjects), Block: r.Intn(256), Count: r.Intn(api.MaxBlock + 1)}
			}
			wantBoth(t, api.Message{Kind: api.Request, Items: items}, requestText(items))
		}
		same := slices.Repeat([]api.Item{{Object: 1, Block: 1, Count: 1}}, n)
		wantBoth(t, api.Message{Kind: api.Request, Items: same}, requestText(same))
	}
}

func TestP6EveryEnd(t *testing.T) {
	for n := range 256 {
		m := api.Message{Kind: api.End, Objects: n}
		text := checked(string([]byte{'E', byte(n)}))
		if n <= api.MaxObjects {
			wantBoth(t, m, text)
		} else {
			wantNoWrite(t, m)
			wantNoRead(t, text)
		}
	}
	for _, n := range beyond {
		wantNoWrite(t, api.Message{Kind: api.End, Objects: n})
	}
}

func TestP6WriteDataBeyondLimits(t *testing.T) {
	base := api.Message{Kind: api.Data, Object: 1, Block: 1, Number: 1, Length: 1, Symbol: "x"}
	for _, n := range slices.Concat(beyond, between(api.MaxObjects, 600)) {
		m := base
		m.Object = n
		wantNoWrite(t, m)
	}
	for _, n := range slices.Concat(beyond, between(256, 600)) {
		m := base
		m.Block = n
		wantNoWrite(t, m)
	}
	for _, n := range slices.Concat(beyond, between(allNumbers, 600)) {
		m := base
		m.Number = n
		wantNoWrite(t, m)
	}
	for _, n := range slices.Concat(beyond, []int{0}, between(api.MaxObject+1, 65536)) {
		m := base
		m.Length = n
		wantNoWrite(t, m)
	}
	for _, size := range []int{0, api.MaxSize + 1, api.MaxSize + 2, 255, 256, 257, 1000000} {
		m := base
		m.Symbol = strings.Repeat("x", size)
		if _, e := reserve.Write(m); e != api.ErrMessage {
			t.Errorf("Write with a symbol of %d bytes = %d", size, e)
		}
	}
}

func TestP6WriteRequestBeyondLimits(t *testing.T) {
	wantNoWrite(t, api.Message{Kind: api.Request})
	wantNoWrite(t, api.Message{Kind: api.Request, Items: []api.Item{}})
	for _, n := range []int{api.MaxItems + 1, 255, 256, 257, 258, 65536, 65537} {
		wantNoWriteOfItems(t, make([]api.Item, n))
	}
	for n := 1; n <= api.MaxItems; n++ {
		for place := range n {
			for _, wrong := range wrongItems() {
				items := make([]api.Item, n)
				items[place] = wrong
				wantNoWriteOfItems(t, items)
			}
		}
	}
}

func wantNoWriteOfItems(t *testing.T, items []api.Item) {
	t.Helper()
	if s, e := reserve.Write(api.Message{Kind: api.Request, Items: items}); s != "" || e != api.ErrMessage {
		t.Errorf("Write of %d items, first %#v = %q, %d", len(items), items[0], s, e)
	}
}

// wrongItems: in each just one number is beyond its limits.
func wrongItems() []api.Item {
	items := []api.Item{{Object: api.MaxObjects}, {Object: 255}, {Count: api.MaxBlock + 1}, {Count: 255}}
	for _, n := range slices.Concat(beyond, between(256, 260)) {
		items = append(items, api.Item{Object: n}, api.Item{Block: n}, api.Item{Count: n})
	}
	return items
}

func TestP6WriteOfNoKind(t *testing.T) {
	for _, kind := range slices.Concat(beyond, []int{0, 4, 5, 'D', 'R', 'E', 256, 257, 258, 259}) {
		wantNoWrite(t, api.Message{Kind: kind})
		for _, m := range someMessages() {
			m.Kind = kind
			wantNoWrite(t, m)
		}
	}
	for _, m := range someMessages() {
		for kind := api.Data; kind <= api.End; kind++ {
			other := m
			other.Kind = kind
			if kind != m.Kind {
				wantNoWrite(t, other)
			}
		}
	}
}

// TestP6WriteWithMoreThanItsKindHas: one thing at a time is set that the kind does not have, within its limits and
// beyond them.
func TestP6WriteWithMoreThanItsKindHas(t *testing.T) {
	for _, m := range someMessages() {
		for _, n := range slices.Concat(beyond, []int{1, 7, 256}) {
			if m.Kind != api.Data {
				object, block, number, length := m, m, m, m
				object.Object, block.Block, number.Number, length.Length = n, n, n, n
				for _, more := range []api.Message{object, block, number, length} {
					wantNoWrite(t, more)
				}
			}
			if m.Kind != api.End {
				more := m
				more.Objects = n
				wantNoWrite(t, more)
			}
		}
		if m.Kind != api.Data {
			for _, symbol := range []string{"x", "\x00", strings.Repeat("x", api.MaxSize), strings.Repeat("x", api.MaxSize+1)} {
				more := m
				more.Symbol = symbol
				wantNoWrite(t, more)
			}
		}
		if m.Kind != api.Request {
			for _, items := range [][]api.Item{{{}}, {{Object: 1, Block: 1, Count: 1}}, {{Object: -1}}, make([]api.Item, api.MaxItems+1)} {
				more := m
				more.Items = items
				wantNoWrite(t, more)
			}
		}
	}
}

// TestP6WriteWithEmptyItems: a list of no items is as empty as none, whatever room it has.
func TestP6WriteWithEmptyItems(t *testing.T) {
	room := []api.Item{{Object: 1}, {Object: 2}}
	for _, items := range [][]api.Item{nil, {}, room[:0]} {
		wantWrite(t, api.Message{Kind: api.End, Objects: 2, Items: items}, checked("E\x02"), api.OK)
		wantWrite(t, api.Message{Kind: api.Data, Length: 1, Symbol: "x", Items: items}, dataText(0, 0, 0, 1, "x"), api.OK)
		wantNoWrite(t, api.Message{Kind: api.Request, Items: items})
	}
}

// TestP6ReadEveryByteOfData: each byte of the head takes each value, and the check is right.
func TestP6ReadEveryByteOfData(t *testing.T) {
	for b := range 256 {
		for place := range 4 {
			body := []byte("D\x01\x02\x03\x00\x2dxy")
			body[place] = byte(b)
			m := api.Message{Kind: api.Data, Object: int(body[1]), Block: int(body[2]), Number: int(body[3]), Length: 45, Symbol: "xy"}
			if body[0] == 'D' && m.Object < api.MaxObjects && m.Number < allNumbers {
				wantRead(t, checked(string(body)), m, api.OK)
			} else {
				wantNoRead(t, checked(string(body)))
			}
		}
	}
	for length := range 65536 {
		if text := dataText(1, 2, 3, length, "xy"); length >= 1 && length <= api.MaxObject {
			wantRead(t, text, api.Message{Kind: api.Data, Object: 1, Block: 2, Number: 3, Length: length, Symbol: "xy"}, api.OK)
		} else {
			wantNoRead(t, text)
		}
	}
}

// TestP6ReadDataOfEveryTextLength: from the mark alone to a symbol that is too long.
func TestP6ReadDataOfEveryTextLength(t *testing.T) {
	head := "D\x00\x00\x00\x00\x01"
	for n := range 300 {
		body := (head + strings.Repeat("x", 300))[:n]
		symbol := n - len(head)
		if symbol >= 1 && symbol <= api.MaxSize {
			wantRead(t, checked(body), api.Message{Kind: api.Data, Length: 1, Symbol: body[len(head):]}, api.OK)
		} else {
			wantNoRead(t, checked(body))
		}
	}
}

// TestP6ReadRequestOfEveryCountAndLength: it tells each count of items, and has each number of bytes behind it.
func TestP6ReadRequestOfEveryCountAndLength(t *testing.T) {
	for count := range 256 {
		for n := range 50 {
			text := checked(string([]byte{'R', byte(count)}) + strings.Repeat("\x01", n))
			if count >= 1 && count <= api.MaxItems && n == 3*count {
				items := slices.Repeat([]api.Item{{Object: 1, Block: 1, Count: 1}}, count)
				wantRead(t, text, api.Message{Kind: api.Request, Items: items}, api.OK)
			} else {
				wantNoRead(t, text)
			}
		}
		wantNoRead(t, checked(string([]byte{'R', byte(count)})+strings.Repeat("\x01", 3*(count+256))))
		if count > api.MaxItems {
			wantNoRead(t, checked(string([]byte{'R', byte(count)})+strings.Repeat("\x01", 3*count)))
		}
	}
}

// TestP6ReadEveryByteOfItems: each byte of each item takes each value, and the check is right.
func TestP6ReadEveryByteOfItems(t *testing.T) {
	for n := 1; n <= api.MaxItems; n++ {
		for place := range 3 * n {
			for b := range 256 {
				body := []byte("R" + string([]byte{byte(n)}) + strings.Repeat("\x00", 3*n))
				body[2+place] = byte(b)
				items := make([]api.Item, n)
				item := &items[place/3]
				item.Object, item.Block, item.Count = int(body[2+place/3*3]), int(body[3+place/3*3]), int(body[4+place/3*3])
				if item.Object < api.MaxObjects && item.Count <= api.MaxBlock {
					wantRead(t, checked(string(body)), api.Message{Kind: api.Request, Items: items}, api.OK)
				} else {
					wantNoRead(t, checked(string(body)))
				}
			}
		}
	}
}

// TestP6ReadOfOtherKinds: the body of each message behind another mark; only where it is that kind's body too is it
// read.
func TestP6ReadOfOtherKinds(t *testing.T) {
	for mark := range 256 {
		for _, rest := range []string{"", "\x00", "\x02", "\x01\x02\x03\x00\x2dxy", "\x02\x01\x02\x03\x04\x05\x06", "\x01\x00\x00\x00"} {
			text := checked(string([]byte{byte(mark)}) + rest)
			switch {
			case mark == 'E' && rest == "\x00":
				wantRead(t, text, api.Message{Kind: api.End}, api.OK)
			case mark == 'E' && rest == "\x02":
				wantRead(t, text, api.Message{Kind: api.End, Objects: 2}, api.OK)
			case mark == 'D' && rest == "\x01\x02\x03\x00\x2dxy":
				wantRead(t, text, api.Message{Kind: api.Data, Object: 1, Block: 2, Number: 3, Length: 45, Symbol: "xy"}, api.OK)
			case mark == 'R' && rest == "\x02\x01\x02\x03\x04\x05\x06":
				wantRead(t, text, api.Message{Kind: api.Request, Items: []api.Item{{Object: 1, Block: 2, Count: 3}, {Object: 4, Block: 5, Count: 6}}}, api.OK)
			case mark == 'R' && rest == "\x01\x00\x00\x00":
				wantRead(t, text, api.Message{Kind: api.Request, Items: []api.Item{{}}}, api.OK)
			default:
				wantNoRead(t, text)
			}
		}
	}
}

// TestP6ReadOfEveryShortText: of up to two bytes, and of three or four with a check of what stands ahead.
func TestP6ReadOfEveryShortText(t *testing.T) {
	wantNoRead(t, "")
	wantNoRead(t, checked(""))
	for a := range 256 {
		wantNoRead(t, string([]byte{byte(a)}))
		wantNoRead(t, checked(string([]byte{byte(a)})))
		for b := range 256 {
			wantNoRead(t, string([]byte{byte(a), byte(b)}))
			if a != 'E' {
				wantNoRead(t, checked(string([]byte{byte(a), byte(b)})))
			}
		}
	}
}

// TestP6ReadOfAnotherCheck: of all checks just one is the message's.
func TestP6ReadOfAnotherCheck(t *testing.T) {
	for _, m := range someMessages() {
		text, _ := reserve.Write(m)
		body := text[:len(text)-2]
		for h := range 65536 {
			other := body + string([]byte{byte(h / 256), byte(h % 256)})
			if other == text {
				wantRead(t, other, m, api.OK)
			} else {
				wantNoRead(t, other)
			}
		}
	}
}

// TestP6ReadOfCutOrGrownTexts: no beginning or end of these messages is one, nor one with something ahead or behind;
// but data with a byte 0 behind it is data with a longer symbol, as then the check's low byte and 0 are the check.
func TestP6ReadOfCutOrGrownTexts(t *testing.T) {
	for _, m := range someMessages() {
		text, _ := reserve.Write(m)
		for n := range len(text) {
			wantNoRead(t, text[:n])
			wantNoRead(t, text[n+1:])
		}
		for b := range 256 {
			grown := text + string([]byte{byte(b)})
			if b == 0 && m.Kind == api.Data && len(m.Symbol) < api.MaxSize {
				longer := m
				longer.Symbol += text[len(text)-2 : len(text)-1]
				wantBoth(t, longer, grown)
			} else {
				wantNoRead(t, grown)
			}
			wantNoRead(t, string([]byte{byte(b)})+text)
		}
		wantNoRead(t, text+text)
	}
	for _, mark := range []string{"D", "R", "E", "x"} {
		wantNoRead(t, strings.Repeat(mark, 1000000))
		wantNoRead(t, checked(strings.Repeat(mark, 1000000)))
	}
}

// TestP6ReadOfAnyText: whatever Read takes, Write makes; most of these texts are near a message.
func TestP6ReadOfAnyText(t *testing.T) {
	r := rand.New(rand.NewSource(666))
	taken := 0
	for range 200000 {
		body := make([]byte, r.Intn(30))
		for i := range body {
			body[i] = byte(r.Intn(10))
		}
		if len(body) > 0 {
			body[0] = "DREx"[r.Intn(4)]
		}
		text := checked(string(body))
		m, e := reserve.Read(text)
		if e == api.OK {
			taken++
			wantWrite(t, m, text, api.OK)
		} else if e != api.ErrMessage || !sameMessage(m, api.Message{}) {
			t.Errorf("Read(%q) = %#v, %d", text, m, e)
		}
	}
	if taken == 0 {
		t.Error("Read took none of the texts")
	}
}

// TestP2WriteKeepsItsItems: neither the items nor what stands behind them change, whatever Write answers.
func TestP2WriteKeepsItsItems(t *testing.T) {
	for _, c := range []struct {
		kind  int
		n     int
		first api.Item
		want  api.Errno
	}{
		{api.Request, 1, api.Item{Object: 1, Block: 2, Count: 3}, api.OK},
		{api.Request, api.MaxItems, api.Item{Object: 1, Block: 2, Count: 3}, api.OK},
		{api.Request, 0, api.Item{}, api.ErrMessage},
		{api.Request, api.MaxItems + 1, api.Item{}, api.ErrMessage},
		{api.Request, 2, api.Item{Object: api.MaxObjects}, api.ErrMessage},
		{api.Data, 1, api.Item{}, api.ErrMessage},
		{api.End, 1, api.Item{}, api.ErrMessage},
		{api.End, 0, api.Item{}, api.OK},
	} {
		behind := make([]api.Item, 2*api.MaxItems)
		for i := range behind {
			behind[i] = api.Item{Object: i % api.MaxObjects, Block: i, Count: i % api.MaxBlock}
		}
		behind[0] = c.first
		before := slices.Clone(behind)
		if _, e := reserve.Write(api.Message{Kind: c.kind, Items: behind[:c.n]}); e != c.want {
			t.Errorf("Write of kind %d with %v = %d, want %d", c.kind, before[:c.n], e, c.want)
		}
		if !slices.Equal(behind, before) {
			t.Errorf("Write of kind %d with %v made %v of %v", c.kind, before[:c.n], behind, before)
		}
	}
}

// TestP2WriteKeepsNoItems: what is written into a list afterwards changes no later answer.
func TestP2WriteKeepsNoItems(t *testing.T) {
	items := []api.Item{{Object: 1, Block: 2, Count: 3}}
	wantWrite(t, api.Message{Kind: api.Request, Items: items}, requestText(items), api.OK)
	items[0].Count = 4
	wantWrite(t, api.Message{Kind: api.Request, Items: items}, checked("R\x01\x01\x02\x04"), api.OK)
	wantWrite(t, api.Message{Kind: api.Request, Items: []api.Item{{Object: 1, Block: 2, Count: 3}}}, checked("R\x01\x01\x02\x03"), api.OK)
}

// TestP2ReadHandsOutFreshItems: what is written into a list and its spare room reaches no other, and no later Read
// reaches the list.
func TestP2ReadHandsOutFreshItems(t *testing.T) {
	for n := 1; n <= api.MaxItems; n++ {
		want := slices.Repeat([]api.Item{{Object: 1, Block: 2, Count: 3}}, n)
		text := requestText(want)
		earlier, _ := reserve.Read(text)
		spoilt, _ := reserve.Read(text)
		all := spoilt.Items[:cap(spoilt.Items)]
		for i := range all {
			all[i] = api.Item{Object: 77, Block: 78, Count: 79}
		}
		wantRead(t, text, api.Message{Kind: api.Request, Items: want}, api.OK)
		reserve.Read(requestText(make([]api.Item, api.MaxItems)))
		reserve.Read("no message")
		if !slices.Equal(earlier.Items, want) {
			t.Errorf("a list of %d items became %v", n, earlier.Items)
		}
		for i := range all {
			if all[i] != (api.Item{Object: 77, Block: 78, Count: 79}) {
				t.Errorf("a later Read changed item %d of %d to %v", i, n, all[i])
			}
		}
	}
}
