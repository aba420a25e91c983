package notary

import (
	"escrow/api"
	"escrow/digits"
	"escrow/frame"
)

// What a notary logs is told apart by its first byte: of Submit and Tick texts of their own, of Handle the frame that
// it was given. Each tells its own size, so that one that was cut off is known.
const (
	tickText    = "T"
	tickFirst   = 'T'
	submitFirst = 'S'
	legCountAt  = 13             // behind submitFirst, the payment's number (4) and its deadline (8)
	memoSizeAt  = legCountAt + 1 // behind the number of legs
	legsAt      = memoSizeAt + 1 // behind the memo's length; behind the legs the memo
	legSize     = 9              // bytes: the bank, the account that pays (2), the one that gets (2), the amount (4)
)

func submitText(p api.Payment) string {
	first := string([]byte{submitFirst})
	id := digits.Four(uint32(p.ID))
	deadline := digits.Eight(p.Deadline)
	// A payment that is kept has at most MaxLegs legs, and a memo of at most 4 bytes a character: each in one byte.
	sizes := string([]byte{byte(len(p.Legs)), byte(len(p.Memo))})
	text := first + id + deadline + sizes
	for i := range p.Legs {
		leg := legText(p.Legs[i])
		text = text + leg
	}
	return text + p.Memo
}

func legText(l api.Leg) string {
	bank := string([]byte{byte(l.Bank)})
	pay := digits.Two(uint16(l.Pay))
	get := digits.Two(uint16(l.Get))
	amount := digits.Four(uint32(l.Amount))
	return bank + pay + get + amount
}

// paymentOf gives the payment that a Submit's text tells.
func paymentOf(text string) api.Payment {
	if len(text) < legsAt {
		return api.Payment{}
	}
	id := digits.Number(text[1:5])
	deadline := digits.Number(text[5:legCountAt])
	legs := []api.Leg{}
	rest := text[legsAt:]
	for i := 0; i < int(text[legCountAt]) && len(rest) >= legSize; i++ {
		pay := digits.Number(rest[1:3])
		get := digits.Number(rest[3:5])
		amount := digits.Number(rest[5:legSize])
		leg := api.Leg{Bank: api.Node(rest[0]), Pay: api.Account(pay), Get: api.Account(get), Amount: api.Amount(amount)}
		legs = append(legs, leg)
		rest = rest[legSize:]
	}
	return api.Payment{ID: api.ID(id), Deadline: deadline, Memo: rest, Legs: legs}
}

// Restore gives the notary that has left a log behind.
func Restore(log string) (Notary, api.Errno) {
	n := New()
	for log != "" {
		size := textSize(log)
		if size == 0 {
			return Notary{}, api.ErrLog
		}
		if size > len(log) {
			// Of a call whose text was cut off nothing was sent: it is as if it had not been.
			return n, api.OK
		}
		text := log[:size]
		if !n.redo(text) {
			return Notary{}, api.ErrLog
		}
		log = log[size:]
	}
	return n, api.OK
}

// textSize gives how many bytes the text has that a log begins with: more than are there, if it was cut off; 0, if
// no text begins so.
func textSize(log string) int {
	if log == "" {
		return 0
	}
	switch log[0] {
	case tickFirst:
		return len(tickText)
	case submitFirst:
		return submitSize(log)
	case api.First:
		return frame.Size(log)
	}
	return 0
}

// submitSize gives how many bytes a Submit's text has; the least that one can have, if its sizes are cut off.
func submitSize(log string) int {
	if len(log) < legsAt {
		return legsAt
	}
	return legsAt + int(log[legCountAt])*legSize + int(log[memoSizeAt])
}

// redo makes the call again that has logged a text. If it does not log the same once more, no notary has logged it.
func (n *Notary) redo(text string) bool {
	if text == tickText {
		return n.goOn() == api.OK
	}
	if text != "" && text[0] == submitFirst {
		p := paymentOf(text)
		_, again, wrong := n.Submit(p)
		return wrong == api.OK && again == text
	}
	_, again, wrong := n.Handle(text)
	return wrong == api.OK && again == text
}
