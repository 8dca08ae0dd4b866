// Package reserve: objects sent to many, with spare symbols kept in reserve: see DOC.md.
package reserve

import (
	"reserve/api"
	"reserve/check"
	"reserve/code"
	"reserve/field"
	"reserve/message"
	"reserve/receiver"
	"reserve/sender"
)

// Mul multiplies in the field (P3).
func Mul(a byte, b byte) byte {
	return field.Mul(a, b)
}

// Inv tells an inverse (P3).
func Inv(a byte) (byte, api.Errno) {
	if a == 0 {
		return 0, api.ErrZero
	}
	return field.Inverse(a), api.OK
}

// Sum tells the check of a text (P3).
func Sum(text string) uint16 {
	return check.Sum(text)
}

// Encode makes a block's spare symbols (P4).
func Encode(data string, size int, spare int) (string, api.Errno) {
	return code.Encode(data, size, spare)
}

// Decode makes a block of some of its symbols (P5).
func Decode(numbers []int, symbols string, size int) (string, api.Errno) {
	return code.Decode(numbers, symbols, size)
}

// Write writes a message (P6).
func Write(m api.Message) (string, api.Errno) {
	return message.Write(m)
}

// Read reads a message (P6).
func Read(text string) (api.Message, api.Errno) {
	return message.Read(text)
}

// Sender sends objects.
type Sender struct {
	own sender.Sender
}

// NewSender makes a sender (P7).
func NewSender(size int, block int, spare int) (*Sender, api.Errno) {
	made, e := sender.New(size, block, spare)
	if e != api.OK {
		return nil, e
	}
	return &Sender{own: made}, api.OK
}

// Enqueue takes an object to be sent (P8).
func (s *Sender) Enqueue(object string) (int, api.Errno) {
	return s.own.Enqueue(object)
}

// Next tells the next message (P9).
func (s *Sender) Next() string {
	return s.own.Next()
}

// Hear takes a request (P10).
func (s *Sender) Hear(text string) api.Errno {
	return s.own.Hear(text)
}

// Receiver receives objects.
type Receiver struct {
	own receiver.Receiver
}

// NewReceiver makes a receiver (P11).
func NewReceiver(size int, block int, spare int) (*Receiver, api.Errno) {
	made, e := receiver.New(size, block, spare)
	if e != api.OK {
		return nil, e
	}
	return &Receiver{own: made}, api.OK
}

// Hear takes a message of the sender (P12).
func (r *Receiver) Hear(text string) api.Errno {
	return r.own.Hear(text)
}

// Known tells of how many objects it knows (P14).
func (r *Receiver) Known() int {
	return r.own.Known()
}

// Request asks for what is lacking (P14).
func (r *Receiver) Request() string {
	return r.own.Request()
}

// Take hands the next object over (P13).
func (r *Receiver) Take() (string, bool) {
	return r.own.Take()
}
