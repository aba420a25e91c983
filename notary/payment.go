package notary

import (
	"escrow/api"
	"escrow/frame"
)

// payment is a payment that the notary keeps. Legs are told by bits: bit 0 for leg 0.
type payment struct {
	asked      api.Payment // a copy: nothing in it was handed in
	state      api.State
	held, done uint8
}

// allLegs has the bit of every leg that a payment may have.
const allLegs = 1<<api.MaxLegs - 1

// fault gives the error of a payment that may not be submitted, whatever the notary keeps. Its order is the
// document's: the first error that applies is the answer.
func fault(p api.Payment) api.Errno {
	if len(p.Legs) == 0 || len(p.Legs) > api.MaxLegs {
		return api.ErrLeg
	}
	for i := range p.Legs {
		if !frame.IsBank(p.Legs[i].Bank) {
			return api.ErrNode
		}
		if p.Legs[i].Amount == 0 {
			return api.ErrAmount
		}
	}
	if !frame.IsMemo(p.Memo) {
		return api.ErrMemo
	}
	return api.OK
}

// copyOf gives a payment that shares nothing with the one that was handed in.
func copyOf(p api.Payment) api.Payment {
	memo := []byte(p.Memo)
	legs := append([]api.Leg{}, p.Legs...)
	return api.Payment{ID: p.ID, Deadline: p.Deadline, Memo: string(memo), Legs: legs}
}

func isSame(p, other api.Payment) bool {
	if p.ID != other.ID || p.Deadline != other.Deadline || p.Memo != other.Memo {
		return false
	}
	if len(p.Legs) != len(other.Legs) {
		return false
	}
	for i := range p.Legs {
		if p.Legs[i] != other.Legs[i] {
			return false
		}
	}
	return true
}

// hasLeg tells whether the payment has this leg at this bank.
func (p *payment) hasLeg(leg uint8, bank api.Node) bool {
	return int(leg) < len(p.asked.Legs) && p.asked.Legs[leg].Bank == bank
}

func (p *payment) status() api.Status {
	return api.Status{State: p.state, Held: p.held, Done: p.done}
}

// areAllHeld tells whether the payment may be carried out.
func (p *payment) areAllHeld() bool {
	for i := range p.asked.Legs {
		if p.held&(1<<uint8(i)) == 0 {
			return false
		}
	}
	return true
}

// remind says again what has not been answered.
func (p *payment) remind() []string {
	if p.state == api.Pending {
		return p.say(allLegs &^ p.held)
	}
	return p.say(allLegs &^ p.done)
}

// say gives, for each of these legs that the payment has, the frame that its state asks for: the Prepare until it
// is decided, then the decision.
func (p *payment) say(legs uint8) []string {
	frames := []string{}
	for i := range p.asked.Legs {
		leg := uint8(i)
		if legs&(1<<leg) == 0 {
			continue
		}
		said := p.frameFor(leg, p.asked.Legs[i])
		frames = append(frames, said)
	}
	return frames
}

func (p *payment) frameFor(number uint8, leg api.Leg) string {
	m := api.Msg{From: api.Notary, To: leg.Bank, ID: p.asked.ID, Leg: number}
	switch p.state {
	case api.Accepted:
		m.Kind = api.Execute
	case api.Rejected:
		m.Kind = api.Reject
	default:
		m.Kind = api.Prepare
		m.Pay = leg.Pay
		m.Get = leg.Get
		m.Amount = leg.Amount
		m.Memo = p.asked.Memo
	}
	return frame.Spell(m)
}
