package bank

import (
	"escrow/api"
	"escrow/digits"
	"escrow/frame"
)

// What a bank logs is told apart by its first byte: of Open a text of its own, of Handle the frame that it was
// given. Each tells its own size, so that one that was cut off is known.
const (
	openFirst = 'O'
	openSize  = 7 // bytes: openFirst, the account (2), its balance (4)
)

func openText(a api.Account, balance api.Amount) string {
	first := string([]byte{openFirst})
	number := digits.Two(uint16(a))
	amount := digits.Four(uint32(balance))
	return first + number + amount
}

// Restore gives the bank that has left a log behind.
func Restore(n api.Node, log string) (Bank, api.Errno) {
	b, wrong := New(n)
	if wrong != api.OK {
		return Bank{}, wrong
	}
	for log != "" {
		size := textSize(log)
		if size == 0 {
			return Bank{}, api.ErrLog
		}
		if size > len(log) {
			// Of a call whose text was cut off nothing was sent: it is as if it had not been.
			return b, api.OK
		}
		text := log[:size]
		if !b.redo(text) {
			return Bank{}, api.ErrLog
		}
		log = log[size:]
	}
	return b, api.OK
}

// textSize gives how many bytes the text has that a log begins with: more than are there, if it was cut off; 0, if
// no text begins so.
func textSize(log string) int {
	if log == "" {
		return 0
	}
	switch log[0] {
	case openFirst:
		return openSize
	case api.First:
		return frame.Size(log)
	}
	return 0
}

// redo makes the call again that has logged a text. If it does not log the same once more, no bank has logged it.
func (b *Bank) redo(text string) bool {
	// No frame is so short.
	if len(text) == openSize {
		number := digits.Number(text[1:3])
		balance := digits.Number(text[3:])
		again, wrong := b.Open(api.Account(number), api.Amount(balance))
		return wrong == api.OK && again == text
	}
	_, again, wrong := b.Handle(text)
	return wrong == api.OK && again == text
}
