// Package layout: how objects are cut into blocks, and blocks into symbols.
package layout

import "reserve/api"

// Layout is what a sender and its receivers agree on.
type Layout struct {
	Size  int // bytes of a symbol
	Block int // symbols of a block; an object's last block may have fewer
	Spare int // spare symbols of a block
}

// New tells the layout of these numbers, if there is such a one.
func New(size int, block int, spare int) (Layout, api.Errno) {
	if size < 1 || size > api.MaxSize {
		return Layout{}, api.ErrSize
	}
	if block < 1 || block > api.MaxBlock {
		return Layout{}, api.ErrBlock
	}
	if spare < 0 || spare > api.MaxSpare {
		return Layout{}, api.ErrSpare
	}
	return Layout{Size: size, Block: block, Spare: spare}, api.OK
}

// Blocks tells how many blocks an object of this length has.
func (l Layout) Blocks(length int) int {
	symbols := pieces(length, l.Size)
	return pieces(symbols, l.Block)
}

// Symbols tells how many symbols a block has in an object of this length: none, if there is no such block.
func (l Layout) Symbols(length int, block int) int {
	blocks := l.Blocks(length)
	if block < 0 || block >= blocks {
		return 0
	}
	if block < blocks-1 {
		return l.Block
	}
	symbols := pieces(length, l.Size)
	return symbols - block*l.Block
}

// Data tells a block's symbols, one behind the other; behind the object's end they have bytes 0.
func (l Layout) Data(object string, block int) string {
	bytes := l.Symbols(len(object), block) * l.Size
	first := block * l.Block * l.Size
	data := []byte{}
	for place := first; place < first+bytes; place++ {
		if place < len(object) {
			data = append(data, object[place])
		} else {
			data = append(data, 0)
		}
	}
	return string(data)
}

// pieces tells how many pieces of this size it takes to hold so many.
func pieces(count int, size int) int {
	if count < 1 || size < 1 {
		return 0
	}
	return (count-1)/size + 1
}
