// Package message: messages as texts, with their check.
package message

import (
	"reserve/api"
	"reserve/check"
)

// The first byte of a message tells its kind.
const (
	dataMark    = 'D'
	requestMark = 'R'
	endMark     = 'E'
)

const (
	checkBytes = 2
	shortHead  = 2 // of a request, ahead of the items; of an end, all there is
	itemBytes  = 3
	dataHead   = 6 // of data, ahead of the symbol
)

// Write tells the message that m tells.
func Write(m api.Message) (string, api.Errno) {
	if !isMessage(m) {
		return "", api.ErrMessage
	}
	body := bodyOf(m)
	h := check.Sum(body)
	return body + string([]byte{byte(h >> 8), byte(h)}), api.OK
}

// Read tells what a message tells. A text is a message just if Write makes it: so what the text seems to tell is
// written once more, and every limit stands in one place.
func Read(text string) (api.Message, api.Errno) {
	m := seemsToTell(text)
	again, e := Write(m)
	if e != api.OK || again != text {
		return api.Message{}, api.ErrMessage
	}
	return m, api.OK
}

func isMessage(m api.Message) bool {
	switch m.Kind {
	case api.Data:
		return isData(m)
	case api.Request:
		return isRequest(m)
	case api.End:
		return isEnd(m)
	}
	return false
}

func isData(m api.Message) bool {
	if len(m.Items) != 0 || m.Objects != 0 {
		return false
	}
	if !isPlace(m.Object, m.Block) {
		return false
	}
	if m.Number < 0 || m.Number >= api.MaxBlock+api.MaxSpare {
		return false
	}
	if m.Length < 1 || m.Length > api.MaxObject {
		return false
	}
	return len(m.Symbol) >= 1 && len(m.Symbol) <= api.MaxSize
}

func isRequest(m api.Message) bool {
	if hasData(m) || m.Objects != 0 {
		return false
	}
	if len(m.Items) < 1 || len(m.Items) > api.MaxItems {
		return false
	}
	for i := 0; i < len(m.Items); i++ {
		if !isItem(m.Items[i]) {
			return false
		}
	}
	return true
}

func isEnd(m api.Message) bool {
	if hasData(m) || len(m.Items) != 0 {
		return false
	}
	return m.Objects >= 0 && m.Objects <= api.MaxObjects
}

// hasData tells whether something is set that only data has.
func hasData(m api.Message) bool {
	return m.Object != 0 || m.Block != 0 || m.Number != 0 || m.Length != 0 || len(m.Symbol) != 0
}

func isItem(item api.Item) bool {
	if !isPlace(item.Object, item.Block) {
		return false
	}
	return item.Count >= 0 && item.Count <= api.MaxBlock
}

// isPlace tells whether a message can name this block of this object.
func isPlace(object int, block int) bool {
	return object >= 0 && object < api.MaxObjects && block >= 0 && block <= 255
}

// bodyOf tells what stands ahead of the check.
func bodyOf(m api.Message) string {
	switch m.Kind {
	case api.Data:
		return dataBody(m)
	case api.Request:
		return requestBody(m.Items)
	}
	return string([]byte{endMark, byte(m.Objects)})
}

func dataBody(m api.Message) string {
	head := []byte{dataMark, byte(m.Object), byte(m.Block), byte(m.Number), byte(m.Length >> 8), byte(m.Length)}
	return string(head) + m.Symbol
}

func requestBody(items []api.Item) string {
	body := []byte{requestMark, byte(len(items))}
	for i := 0; i < len(items); i++ {
		body = append(body, byte(items[i].Object), byte(items[i].Block), byte(items[i].Count))
	}
	return string(body)
}

// seemsToTell takes a text for a message without asking whether it is one; what can't be one tells nothing.
func seemsToTell(text string) api.Message {
	if len(text) < shortHead+checkBytes {
		return api.Message{}
	}
	body := text[:len(text)-checkBytes]
	switch body[0] {
	case dataMark:
		return dataIn(body)
	case requestMark:
		return api.Message{Kind: api.Request, Items: itemsIn(body)}
	case endMark:
		return api.Message{Kind: api.End, Objects: int(body[1])}
	}
	return api.Message{}
}

func dataIn(body string) api.Message {
	if len(body) < dataHead {
		return api.Message{}
	}
	return api.Message{
		Kind:   api.Data,
		Object: int(body[1]),
		Block:  int(body[2]),
		Number: int(body[3]),
		Length: int(body[4])<<8 | int(body[5]),
		Symbol: body[dataHead:],
	}
}

// itemsIn goes by the room that there is, not by the count that is told, and reads no more than a request can have.
func itemsIn(body string) []api.Item {
	items := []api.Item{}
	for at := shortHead; at+itemBytes <= len(body) && len(items) < api.MaxItems; at += itemBytes {
		item := api.Item{Object: int(body[at]), Block: int(body[at+1]), Count: int(body[at+2])}
		items = append(items, item)
	}
	return items
}
