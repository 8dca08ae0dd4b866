// Package receiver: gathers symbols until they give the objects, and asks for what is lacking.
package receiver

import (
	"reserve/api"
	"reserve/code"
	"reserve/layout"
	"reserve/message"
)

// Receiver gathers objects; New makes one.
type Receiver struct {
	layout  layout.Layout
	objects []gathered // all that it knows of
	taken   int        // how many objects Take has answered
}

// gathered is what is kept of an object: its length, 0 as long as it is not known, and then its blocks. Of an object
// that was taken the length alone is still needed, so it has no blocks: none that lacks something, none to add to.
type gathered struct {
	length int
	blocks []gatheredBlock
}

// gatheredBlock is what has come of a block: symbols, one behind the other, and their numbers.
type gatheredBlock struct {
	numbers []int
	symbols []byte
}

// New tells a receiver that knows of no objects.
func New(size int, block int, spare int) (Receiver, api.Errno) {
	agreed, e := layout.New(size, block, spare)
	return Receiver{layout: agreed}, e
}

// Hear takes data or an end.
func (r *Receiver) Hear(text string) api.Errno {
	m, e := message.Read(text)
	if e != api.OK {
		return api.ErrMessage
	}
	switch m.Kind {
	case api.Data:
		return r.hearData(m)
	case api.End:
		r.knowOf(m.Objects)
		return api.OK
	}
	return api.ErrMessage
}

// Known tells of how many objects it knows.
func (r *Receiver) Known() int {
	return len(r.objects)
}

// Request asks for what is lacking, or for as much of it as a request can have.
func (r *Receiver) Request() string {
	items := []api.Item{}
	for object := 0; object < len(r.objects); object++ {
		lacking := r.lacking(object)
		for i := 0; i < len(lacking) && len(items) < api.MaxItems; i++ {
			items = append(items, lacking[i])
		}
	}
	if len(items) == 0 {
		return ""
	}
	request, _ := message.Write(api.Message{Kind: api.Request, Items: items})
	return request
}

// Take tells the next object, and whether it is complete.
func (r *Receiver) Take() (string, bool) {
	if r.taken >= len(r.objects) {
		return "", false
	}
	lacking := r.lacking(r.taken)
	if len(lacking) > 0 {
		return "", false
	}
	text := r.text(r.taken)
	r.objects[r.taken].blocks = nil
	r.taken++
	return text, true
}

func (r *Receiver) hearData(m api.Message) api.Errno {
	symbols := r.layout.Symbols(m.Length, m.Block)
	if len(m.Symbol) != r.layout.Size || symbols == 0 || m.Number >= symbols+r.layout.Spare {
		return api.ErrMessage
	}
	length := r.length(m.Object)
	if length != 0 && length != m.Length {
		return api.ErrClash
	}
	r.knowOf(m.Object + 1)
	if length == 0 {
		r.begin(m.Object, m.Length)
	}
	blocks := r.objects[m.Object].blocks
	if m.Block < len(blocks) {
		blocks[m.Block].add(symbols, m.Number, m.Symbol)
	}
	return api.OK
}

// length tells an object's length: 0, if it is not known.
func (r *Receiver) length(object int) int {
	if object >= len(r.objects) {
		return 0
	}
	return r.objects[object].length
}

// knowOf makes the receiver know of at least so many objects.
func (r *Receiver) knowOf(count int) {
	for len(r.objects) < count {
		r.objects = append(r.objects, gathered{})
	}
}

// begin sets an object's length, and with it its blocks, of which nothing has come.
func (r *Receiver) begin(object int, length int) {
	blocks := r.layout.Blocks(length)
	r.objects[object] = gathered{length: length, blocks: make([]gatheredBlock, blocks)}
}

// add takes a symbol, if the block, of so many symbols, lacks some and this one has not come. Symbols beyond those
// that the block needs are left out, as these alone tell which block it is.
func (b *gatheredBlock) add(symbols int, number int, symbol string) {
	if len(b.numbers) >= symbols {
		return
	}
	for i := 0; i < len(b.numbers); i++ {
		if b.numbers[i] == number {
			return
		}
	}
	b.numbers = append(b.numbers, number)
	for i := 0; i < len(symbol); i++ {
		b.symbols = append(b.symbols, symbol[i])
	}
}

// lacking tells what is to be asked for of an object: nothing, just if it is complete.
func (r *Receiver) lacking(object int) []api.Item {
	length := r.objects[object].length
	if length == 0 {
		return []api.Item{{Object: object}}
	}
	items := []api.Item{}
	blocks := r.objects[object].blocks
	for block := 0; block < len(blocks); block++ {
		count := r.layout.Symbols(length, block) - len(blocks[block].numbers)
		if count > 0 {
			items = append(items, api.Item{Object: object, Block: block, Count: count})
		}
	}
	return items
}

// text tells a complete object. Its last symbol may go on behind its end.
func (r *Receiver) text(object int) string {
	text := ""
	blocks := r.objects[object].blocks
	for block := 0; block < len(blocks); block++ {
		data, _ := code.Decode(blocks[block].numbers, string(blocks[block].symbols), r.layout.Size)
		text += data
	}
	length := r.objects[object].length
	if length > len(text) {
		return ""
	}
	return text[:length]
}
