// Package bank: a bank's node, with its accounts and the legs that it keeps.
package bank

import (
	"escrow/api"
	"escrow/frame"
)

// Bank is a bank's node. What is held and due of an account is summed up from the legs when it is asked for,
// so that it cannot part from them.
type Bank struct {
	node     api.Node
	accounts []account
	legs     []leg // by rising payment, then rising number: Tick tells them so
}

type account struct {
	number  api.Account
	balance api.Amount
}

// New gives a bank without accounts.
func New(n api.Node) (Bank, api.Errno) {
	if !frame.IsBank(n) {
		return Bank{}, api.ErrNode
	}
	return Bank{node: n}, api.OK
}

// Open opens an account.
func (b *Bank) Open(a api.Account, balance api.Amount) (string, api.Errno) {
	if b.has(a) {
		return "", api.ErrExists
	}
	if len(b.accounts) >= api.MaxAccounts {
		return "", api.ErrFull
	}
	b.accounts = append(b.accounts, account{number: a, balance: balance})
	return openText(a, balance), api.OK
}

// Funds tells of an account.
func (b *Bank) Funds(a api.Account) (api.Funds, api.Errno) {
	if !b.has(a) {
		return api.Funds{}, api.ErrAccount
	}
	return b.funds(a), api.OK
}

func (b *Bank) has(a api.Account) bool {
	for i := range b.accounts {
		if b.accounts[i].number == a {
			return true
		}
	}
	return false
}

// funds tells of an account that is there. The sums do not run over: no leg is Held beyond what the one account
// has and what the other one can take.
func (b *Bank) funds(a api.Account) api.Funds {
	sum := api.Funds{}
	for i := range b.accounts {
		if b.accounts[i].number == a {
			sum.Balance = b.accounts[i].balance
		}
	}
	for i := range b.legs {
		if b.legs[i].state != api.Held {
			continue
		}
		if b.legs[i].terms.pay == a {
			sum.Held += b.legs[i].terms.amount
		}
		if b.legs[i].terms.get == a {
			sum.Due += b.legs[i].terms.amount
		}
	}
	return sum
}

// canHold tells whether a leg of these terms could be carried out beside all that are held.
func (b *Bank) canHold(t terms) bool {
	if !b.has(t.pay) {
		return false
	}
	if !b.has(t.get) {
		return false
	}
	payer := b.funds(t.pay)
	if payer.Balance-payer.Held < t.amount {
		return false
	}
	getter := b.funds(t.get)
	// In 64 bits, since these three together may be beyond 32.
	return uint64(getter.Balance)+uint64(getter.Due)+uint64(t.amount) <= api.MaxAmount
}

// carryOut moves the amount of a leg that is held. An account may pay itself, and then has what it had.
func (b *Bank) carryOut(t terms) {
	for i := range b.accounts {
		if b.accounts[i].number == t.pay {
			b.accounts[i].balance -= t.amount
		}
		if b.accounts[i].number == t.get {
			b.accounts[i].balance += t.amount
		}
	}
}
