package bank

import (
	"escrow/api"
	"escrow/frame"
)

// Handle takes a frame in, and answers with one.
func (b *Bank) Handle(s string) ([]string, string, api.Errno) {
	m, wrong := frame.Decode(s)
	if wrong != api.OK {
		return nil, "", wrong
	}
	if m.To != b.node {
		return nil, "", api.ErrNode
	}
	before := b.state(m.ID, m.Leg)
	state, wrong := b.follow(m)
	if wrong != api.OK {
		return nil, "", wrong
	}
	answer := b.report(m.ID, m.Leg, state)
	// Whatever a message changes, it changes the state of its leg.
	if state == before {
		return []string{answer}, "", api.OK
	}
	// Spelled anew, since the frame that was handed in is not to be given on.
	return []string{answer}, frame.Spell(m), api.OK
}

// Tick tells the notary again of each leg that waits for its decision.
func (b *Bank) Tick() []string {
	frames := []string{}
	for i := range b.legs {
		if b.legs[i].state == api.Held {
			prepared := b.report(b.legs[i].id, b.legs[i].number, api.Held)
			frames = append(frames, prepared)
		}
	}
	return frames
}

// report gives the frame that tells the notary how a leg stands.
func (b *Bank) report(id api.ID, number uint8, state api.State) string {
	kind := api.Done
	switch state {
	case api.Held:
		kind = api.Prepared
	case api.Denied:
		kind = api.Refused
	}
	return frame.Spell(api.Msg{Kind: kind, From: b.node, To: api.Notary, ID: id, Leg: number})
}

// follow does what a message to this bank asks, and gives how its leg then stands. No other kind than these three
// goes to a bank.
func (b *Bank) follow(m api.Msg) (api.State, api.Errno) {
	switch m.Kind {
	case api.Prepare:
		return b.prepare(m)
	case api.Execute:
		return b.execute(m)
	}
	return b.reject(m)
}

func (b *Bank) prepare(m api.Msg) (api.State, api.Errno) {
	asked := termsOf(m)
	at := b.find(m.ID, m.Leg)
	if at < len(b.legs) {
		// A leg that came by a Reject has no terms that could be others.
		if b.legs[at].terms != asked && b.legs[at].terms != (terms{}) {
			return 0, api.ErrConflict
		}
		return b.legs[at].state, api.OK
	}
	state := api.Denied
	if b.canHold(asked) {
		state = api.Held
	}
	full := b.keep(leg{id: m.ID, number: m.Leg, state: state, terms: asked})
	if full != api.OK {
		return 0, full
	}
	return state, api.OK
}

func (b *Bank) execute(m api.Msg) (api.State, api.Errno) {
	at := b.find(m.ID, m.Leg)
	if at >= len(b.legs) {
		return 0, api.ErrState
	}
	switch b.legs[at].state {
	case api.Held:
		agreed := b.legs[at].terms
		b.carryOut(agreed)
		b.legs[at].state = api.Executed
	case api.Executed:
		// It was carried out when the first Execute came.
	default:
		return 0, api.ErrState
	}
	return api.Executed, api.OK
}

func (b *Bank) reject(m api.Msg) (api.State, api.Errno) {
	at := b.find(m.ID, m.Leg)
	if at >= len(b.legs) {
		// Kept, so that a Prepare that comes late does not hold what nobody would release.
		full := b.keep(leg{id: m.ID, number: m.Leg, state: api.Released})
		if full != api.OK {
			return 0, full
		}
		return api.Released, api.OK
	}
	if b.legs[at].state == api.Executed {
		return 0, api.ErrState
	}
	b.legs[at].state = api.Released
	return api.Released, api.OK
}
