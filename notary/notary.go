// Package notary: the notary's node, with its clock and the payments that it keeps.
package notary

import "escrow/api"

// Notary is the notary's node.
type Notary struct {
	clock    uint64
	payments []payment // by rising number: Tick reminds of them so
}

// New gives a notary without payments, its clock at 0.
func New() Notary {
	return Notary{}
}

// Submit takes a payment in, and asks for its legs.
func (n *Notary) Submit(p api.Payment) ([]string, string, api.Errno) {
	wrong := fault(p)
	if wrong != api.OK {
		return nil, "", wrong
	}
	at := n.find(p.ID)
	if at < len(n.payments) {
		kept := n.payments[at]
		if !isSame(kept.asked, p) {
			return nil, "", api.ErrConflict
		}
		return kept.remind(), "", api.OK
	}
	if p.Deadline <= n.clock {
		return nil, "", api.ErrDeadline
	}
	if len(n.payments) >= api.MaxPayments {
		return nil, "", api.ErrFull
	}
	fresh := payment{asked: copyOf(p), state: api.Pending}
	n.keep(fresh)
	frames := fresh.say(allLegs)
	return frames, submitText(p), api.OK
}

// Status tells how a payment stands.
func (n *Notary) Status(id api.ID) (api.Status, api.Errno) {
	at := n.find(id)
	if at >= len(n.payments) {
		return api.Status{}, api.ErrUnknown
	}
	p := n.payments[at]
	return p.status(), api.OK
}

// Clock tells how many ticks have gone by.
func (n *Notary) Clock() uint64 {
	return n.clock
}

// find gives where a payment stands in the list; the list's length, if it is not kept.
func (n *Notary) find(id api.ID) int {
	at := 0
	for at < len(n.payments) && n.payments[at].asked.ID != id {
		at++
	}
	return at
}

// keep lays a new payment in its place among the others.
func (n *Notary) keep(p payment) {
	n.payments = append(n.payments, p)
	for at := len(n.payments) - 1; at > 0 && p.asked.ID < n.payments[at-1].asked.ID; at-- {
		n.payments[at] = n.payments[at-1]
		n.payments[at-1] = p
	}
}
