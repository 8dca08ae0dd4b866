// Package code: a block's spare symbols, and the block of any as many of its symbols as it has.
package code

import (
	"reserve/api"
	"reserve/field"
)

// Encode tells the first spare symbols, so many, of the block that data is.
func Encode(data string, size int, spare int) (string, api.Errno) {
	if size < 1 || size > api.MaxSize {
		return "", api.ErrSize
	}
	if len(data) == 0 || len(data)%size != 0 || len(data)/size > api.MaxBlock {
		return "", api.ErrBlock
	}
	if spare < 0 || spare > api.MaxSpare {
		return "", api.ErrSpare
	}
	k := len(data) / size
	numbers := numbersBelow(k)
	return symbolsFrom(k, spare, numbers, data, size), api.OK
}

// Decode tells the block whose symbols of these numbers are given.
func Decode(numbers []int, symbols string, size int) (string, api.Errno) {
	if size < 1 || size > api.MaxSize {
		return "", api.ErrSize
	}
	k := len(numbers)
	if k == 0 || k > api.MaxBlock || len(symbols) != k*size {
		return "", api.ErrBlock
	}
	if !areNumbers(numbers) {
		return "", api.ErrNumber
	}
	return symbolsFrom(0, k, numbers, symbols, size), api.OK
}

func numbersBelow(k int) []int {
	numbers := []int{}
	for number := 0; number < k; number++ {
		numbers = append(numbers, number)
	}
	return numbers
}

// areNumbers tells whether these may be the numbers of a block's symbols, each there once.
func areNumbers(numbers []int) bool {
	for i := 0; i < len(numbers); i++ {
		if numbers[i] < 0 || numbers[i] >= api.MaxBlock+api.MaxSpare {
			return false
		}
		for j := 0; j < i; j++ {
			if numbers[j] == numbers[i] {
				return false
			}
		}
	}
	return true
}

// symbolsFrom tells count symbols of a block, from the number first on. The block is told by as many of its symbols
// as it has, with their numbers, which differ.
func symbolsFrom(first int, count int, numbers []int, symbols string, size int) string {
	made := []byte{}
	for target := first; target < first+count; target++ {
		shares := sharesAt(target, numbers)
		for place := 0; place < size; place++ {
			value := valueAt(place, shares, symbols, size)
			made = append(made, value)
		}
	}
	return string(made)
}

// valueAt sums up what the symbols' bytes in this place give, each by its share.
func valueAt(place int, shares []byte, symbols string, size int) byte {
	value := byte(0)
	for i := 0; i < len(shares); i++ {
		part := field.Mul(shares[i], symbols[i*size+place])
		value ^= part
	}
	return value
}

// sharesAt tells for each number how its symbol counts in the symbol of number target. The shares are the same for
// every place, so they are made once a target.
func sharesAt(target int, numbers []int) []byte {
	shares := []byte{}
	for i := 0; i < len(numbers); i++ {
		share := shareAt(target, numbers, i)
		shares = append(shares, share)
	}
	return shares
}

// shareAt tells the value at target of the polynomial, of degree below len(numbers), that is 1 at numbers[own] and 0
// at the others.
func shareAt(target int, numbers []int, own int) byte {
	above := byte(1)
	below := byte(1)
	for i := 0; i < len(numbers); i++ {
		if i != own {
			above = field.Mul(above, byte(target^numbers[i]))
			below = field.Mul(below, byte(numbers[own]^numbers[i]))
		}
	}
	inverse := field.Inverse(below)
	return field.Mul(above, inverse)
}
