// Package escrow: payments over several banks that are held, decided once by a notary, and carried out everywhere or nowhere: see DOC.md.
package escrow

import (
	"escrow/api"
	"escrow/bank"
	"escrow/frame"
	"escrow/notary"
)

// Bank is a bank's node, Deed a notary's.
type Bank struct {
	node bank.Bank
}

type Deed struct {
	node notary.Notary
}

// Sum gives the checksum of some bytes (P3).
func Sum(s string) uint32 { return frame.Sum(s) }

// Encode gives the frame that says a message (P4).
func Encode(m api.Msg) (string, api.Errno) { return frame.Encode(m) }

// Decode tells what a frame says (P5).
func Decode(s string) (api.Msg, api.Errno) { return frame.Decode(s) }

// NewBank makes a bank (P6).
func NewBank(n api.Node) (*Bank, api.Errno) {
	node, wrong := bank.New(n)
	if wrong != api.OK {
		return nil, wrong
	}
	return &Bank{node: node}, api.OK
}

// Open opens an account (P6).
func (b *Bank) Open(a api.Account, balance api.Amount) (string, api.Errno) {
	return b.node.Open(a, balance)
}

// Funds tells of an account (P6).
func (b *Bank) Funds(a api.Account) (api.Funds, api.Errno) { return b.node.Funds(a) }

// Leg tells how a leg stands (P7).
func (b *Bank) Leg(id api.ID, leg uint8) (api.State, api.Errno) { return b.node.Leg(id, leg) }

// Handle takes a frame in (P7).
func (b *Bank) Handle(frame string) ([]string, string, api.Errno) { return b.node.Handle(frame) }

// Tick reminds (P8).
func (b *Bank) Tick() []string { return b.node.Tick() }

// NewDeed makes a notary (P9).
func NewDeed() *Deed {
	return &Deed{node: notary.New()}
}

// Submit takes a payment in (P9).
func (d *Deed) Submit(p api.Payment) ([]string, string, api.Errno) { return d.node.Submit(p) }

// Handle takes a frame in (P10).
func (d *Deed) Handle(frame string) ([]string, string, api.Errno) { return d.node.Handle(frame) }

// Tick lets a tick go by (P11).
func (d *Deed) Tick() ([]string, string, api.Errno) { return d.node.Tick() }

// Status tells how a payment stands (P9).
func (d *Deed) Status(id api.ID) (api.Status, api.Errno) { return d.node.Status(id) }

// Clock tells how many ticks have gone by (P11).
func (d *Deed) Clock() uint64 { return d.node.Clock() }

// RestoreBank gives a bank back by its log (P12).
func RestoreBank(n api.Node, log string) (*Bank, api.Errno) {
	node, wrong := bank.Restore(n, log)
	if wrong != api.OK {
		return nil, wrong
	}
	return &Bank{node: node}, api.OK
}

// RestoreDeed gives a notary back by its log (P12).
func RestoreDeed(log string) (*Deed, api.Errno) {
	node, wrong := notary.Restore(log)
	if wrong != api.OK {
		return nil, wrong
	}
	return &Deed{node: node}, api.OK
}
