package bank

import "escrow/api"

// leg is a leg of a payment that the bank keeps.
type leg struct {
	id     api.ID
	number uint8
	state  api.State
	terms  terms // empty, if the leg came by a Reject: the amount of a Prepare is never 0
}

// terms are what a Prepare must say again when it comes again.
type terms struct {
	pay, get api.Account
	amount   api.Amount
	memo     string
}

// termsOf gives the terms of a Prepare. The memo is copied, since it is a piece of a frame that was handed in.
func termsOf(m api.Msg) terms {
	memo := []byte(m.Memo)
	return terms{pay: m.Pay, get: m.Get, amount: m.Amount, memo: string(memo)}
}

// find gives where a leg stands in the list; the list's length, if it is not kept.
func (b *Bank) find(id api.ID, number uint8) int {
	at := 0
	for at < len(b.legs) && (b.legs[at].id != id || b.legs[at].number != number) {
		at++
	}
	return at
}

// keep lays a new leg in its place among the others.
func (b *Bank) keep(l leg) api.Errno {
	if len(b.legs) >= api.MaxKept {
		return api.ErrFull
	}
	b.legs = append(b.legs, l)
	for at := len(b.legs) - 1; at > 0 && isAhead(l, b.legs[at-1]); at-- {
		b.legs[at] = b.legs[at-1]
		b.legs[at-1] = l
	}
	return api.OK
}

// isAhead tells whether a leg stands ahead of another one in the list.
func isAhead(l, other leg) bool {
	if l.id != other.id {
		return l.id < other.id
	}
	return l.number < other.number
}

// Leg tells how a leg stands.
func (b *Bank) Leg(id api.ID, number uint8) (api.State, api.Errno) {
	state := b.state(id, number)
	if state == 0 {
		return 0, api.ErrUnknown
	}
	return state, api.OK
}

// state gives the state of a leg; 0, which is none, if it is not kept.
func (b *Bank) state(id api.ID, number uint8) api.State {
	at := b.find(id, number)
	if at >= len(b.legs) {
		return 0
	}
	return b.legs[at].state
}
