// Package sender: sends objects symbol by symbol, and what is asked for ahead of all else.
package sender

import (
	"reserve/api"
	"reserve/code"
	"reserve/layout"
	"reserve/message"
)

// Sender has objects to send; New makes one.
type Sender struct {
	layout  layout.Layout
	objects []queued
	next    place // of the symbol that comes next in its order, if it is there
}

type queued struct {
	text  string
	debts []debt // block by block
}

// debt is what is kept for a block. The turn begins anew when all numbers have had theirs, so that it never outgrows
// an int.
type debt struct {
	owes int
	turn int
}

type place struct {
	object, block, number int
}

// New tells a sender that has no objects.
func New(size int, block int, spare int) (Sender, api.Errno) {
	agreed, e := layout.New(size, block, spare)
	return Sender{layout: agreed}, e
}

// Enqueue takes an object and tells its number.
func (s *Sender) Enqueue(text string) (int, api.Errno) {
	if len(text) < 1 || len(text) > api.MaxObject {
		return 0, api.ErrObject
	}
	number := len(s.objects)
	if number >= api.MaxObjects {
		return 0, api.ErrFull
	}
	blocks := s.layout.Blocks(len(text))
	added := queued{text: text, debts: make([]debt, blocks)}
	s.objects = append(s.objects, added)
	return number, api.OK
}

// Next tells the next message.
func (s *Sender) Next() string {
	at, owed := s.firstOwed()
	if owed {
		at.number = s.pay(at.object, at.block)
		return s.data(at)
	}
	if s.next.object < len(s.objects) {
		at = s.next
		s.goOn()
		return s.data(at)
	}
	end, _ := message.Write(api.Message{Kind: api.End, Objects: len(s.objects)})
	return end
}

// Hear takes a request.
func (s *Sender) Hear(text string) api.Errno {
	m, e := message.Read(text)
	if e != api.OK || m.Kind != api.Request {
		return api.ErrMessage
	}
	for i := 0; i < len(m.Items); i++ {
		s.answer(m.Items[i])
	}
	return api.OK
}

func (s *Sender) answer(item api.Item) {
	if item.Object >= len(s.objects) {
		return
	}
	blocks := len(s.objects[item.Object].debts)
	if item.Count > 0 {
		if item.Block < blocks {
			s.owe(item.Object, item.Block, item.Count)
		}
		return
	}
	for block := 0; block < blocks; block++ {
		s.owe(item.Object, block, api.MaxBlock)
	}
}

// owe makes a block owe at least so many, but no more for that than it has symbols.
func (s *Sender) owe(object int, block int, count int) {
	asked := &s.objects[object].debts[block]
	symbols := s.symbols(object, block)
	if count > symbols {
		count = symbols
	}
	if asked.owes < count {
		asked.owes = count
	}
}

// firstOwed tells the first block that owes something, and whether there is one.
func (s *Sender) firstOwed() (place, bool) {
	for object := 0; object < len(s.objects); object++ {
		debts := s.objects[object].debts
		for block := 0; block < len(debts); block++ {
			if debts[block].owes > 0 {
				return place{object: object, block: block}, true
			}
		}
	}
	return place{}, false
}

// pay takes one from what a block owes and tells the number of the symbol that is sent for it. The turn is below all,
// so one round less brings the number below all, too.
func (s *Sender) pay(object int, block int) int {
	paid := &s.objects[object].debts[block]
	symbols := s.symbols(object, block)
	all := symbols + s.layout.Spare
	number := symbols + paid.turn
	if number >= all {
		number -= all
	}
	paid.owes--
	paid.turn++
	if paid.turn >= all {
		paid.turn = 0
	}
	return number
}

// goOn steps to the symbol behind the next one, in their order.
func (s *Sender) goOn() {
	s.next.number++
	symbols := s.symbols(s.next.object, s.next.block)
	if s.next.number < symbols {
		return
	}
	s.next.number = 0
	s.next.block++
	if s.next.block < len(s.objects[s.next.object].debts) {
		return
	}
	s.next.block = 0
	s.next.object++
}

// symbols tells how many symbols a block has, without its spare ones.
func (s *Sender) symbols(object int, block int) int {
	return s.layout.Symbols(len(s.objects[object].text), block)
}

// data tells the message of data with the symbol in this place.
func (s *Sender) data(at place) string {
	text := s.objects[at.object].text
	symbol := s.symbol(text, at.block, at.number)
	m := api.Message{
		Kind:   api.Data,
		Object: at.object,
		Block:  at.block,
		Number: at.number,
		Length: len(text),
		Symbol: symbol,
	}
	data, _ := message.Write(m)
	return data
}

func (s *Sender) symbol(text string, block int, number int) string {
	symbols := s.layout.Data(text, block)
	first := number * s.layout.Size
	if first >= len(symbols) {
		spare, _ := code.Encode(symbols, s.layout.Size, s.layout.Spare)
		symbols += spare
	}
	end := first + s.layout.Size
	if end > len(symbols) {
		return ""
	}
	return symbols[first:end]
}
