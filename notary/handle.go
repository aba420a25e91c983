package notary

import (
	"escrow/api"
	"escrow/frame"
)

// Handle takes a frame in, and answers with what is now to be said.
func (n *Notary) Handle(s string) ([]string, string, api.Errno) {
	m, wrong := frame.Decode(s)
	if wrong != api.OK {
		return nil, "", wrong
	}
	if m.To != api.Notary {
		return nil, "", api.ErrNode
	}
	at := n.find(m.ID)
	if at >= len(n.payments) {
		return nil, "", api.ErrUnknown
	}
	before := n.payments[at]
	if !before.hasLeg(m.Leg, m.From) {
		return nil, "", api.ErrUnknown
	}
	p := before
	frames, wrong := p.hear(m.Kind, m.Leg)
	if wrong != api.OK {
		return nil, "", wrong
	}
	n.payments[at] = p
	was := before.status()
	if p.status() == was {
		return frames, "", api.OK
	}
	// Spelled anew, since the frame that was handed in is not to be given on.
	return frames, frame.Spell(m), api.OK
}

// Tick lets a tick go by: what is late is rejected, and all that waits for an answer is said again.
func (n *Notary) Tick() ([]string, string, api.Errno) {
	wrong := n.goOn()
	if wrong != api.OK {
		return nil, "", wrong
	}
	frames := []string{}
	for i := range n.payments {
		p := n.payments[i]
		reminders := p.remind()
		frames = append(frames, reminders...)
	}
	return frames, tickText, api.OK
}

// goOn lets the clock go on, and rejects what is late. It stands apart from what Tick says, since a log may hold very
// many ticks, and what they said is not to be said again.
func (n *Notary) goOn() api.Errno {
	if n.clock >= api.MaxClock {
		return api.ErrTime
	}
	n.clock++
	for i := range n.payments {
		if n.payments[i].state == api.Pending && n.payments[i].asked.Deadline <= n.clock {
			n.payments[i].state = api.Rejected
		}
	}
	return api.OK
}

// hear does what a bank's word on one of the payment's legs asks. No other kind than these three goes to the notary.
func (p *payment) hear(kind api.Kind, leg uint8) ([]string, api.Errno) {
	switch kind {
	case api.Prepared:
		return p.hearPrepared(leg), api.OK
	case api.Refused:
		return p.hearRefused(leg)
	}
	return nil, p.hearDone(leg)
}

func (p *payment) hearPrepared(leg uint8) []string {
	if p.state != api.Pending {
		return p.say(1 << leg)
	}
	p.held |= 1 << leg
	if !p.areAllHeld() {
		return nil
	}
	p.state = api.Accepted
	return p.say(allLegs)
}

func (p *payment) hearRefused(leg uint8) ([]string, api.Errno) {
	switch p.state {
	case api.Accepted:
		return nil, api.ErrState
	case api.Rejected:
		return p.say(1 << leg), api.OK
	}
	p.state = api.Rejected
	return p.say(allLegs), api.OK
}

func (p *payment) hearDone(leg uint8) api.Errno {
	if p.state == api.Pending {
		return api.ErrState
	}
	p.done |= 1 << leg
	return api.OK
}
