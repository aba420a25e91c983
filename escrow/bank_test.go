package escrow_test

import (
	"fmt"
	"math/rand"
	"slices"
	"strings"
	"testing"
	"unsafe"

	"escrow/api"
	"escrow/escrow"
)

// opened is bank 3 with the accounts 5, 6, 7 and so on.
func opened(t *testing.T, balances ...api.Amount) *escrow.Bank {
	t.Helper()
	b := newBank(t, 3)
	for i, balance := range balances {
		open(t, b, api.Account(5+i), balance, api.OK)
	}
	return b
}

func newBank(t *testing.T, n api.Node) *escrow.Bank {
	t.Helper()
	b, e := escrow.NewBank(n)
	if b == nil || e != api.OK {
		t.Fatalf("NewBank(%d) = %v, %d", n, b, e)
	}
	return b
}

func open(t *testing.T, b *escrow.Bank, a api.Account, balance api.Amount, want api.Errno) {
	t.Helper()
	if log, e := b.Open(a, balance); e != want || e != api.OK && log != "" {
		t.Fatalf("Open(%d, %d) = %q, %d, want %d", a, balance, log, e, want)
	}
}

// asking is a Prepare to bank 3; saying is one of the notary's other messages to it.
func asking(id api.ID, leg uint8, pay, get api.Account, amount api.Amount) api.Msg {
	return api.Msg{Kind: api.Prepare, To: 3, ID: id, Leg: leg, Pay: pay, Get: get, Amount: amount}
}

func saying(k api.Kind, id api.ID, leg uint8) api.Msg {
	return api.Msg{Kind: k, To: 3, ID: id, Leg: leg}
}

// answer hands a message in, and asks for the one frame that must come back.
func answer(t *testing.T, b *escrow.Bank, m api.Msg, k api.Kind) {
	t.Helper()
	out, _, e := b.Handle(spelled(m))
	want := []string{spelled(api.Msg{Kind: k, From: m.To, ID: m.ID, Leg: m.Leg})}
	if e != api.OK || !slices.Equal(out, want) {
		t.Fatalf("Handle(%+v) = %x, %d, want kind %d: %x", m, out, e, k, want)
	}
}

// refuse hands bytes in that must come to an error, with nothing beside it and nothing changed.
func refuse(t *testing.T, b *escrow.Bank, frame string, want api.Errno) {
	t.Helper()
	before := sight(b)
	if out, log, e := b.Handle(frame); e != want || len(out) != 0 || log != "" {
		t.Fatalf("Handle(%x) = %x, %x, %d, want %d", frame, out, log, e, want)
	}
	if after := sight(b); after != before {
		t.Fatalf("Handle(%x) changed the bank:\n%s\nwas\n%s", frame, after, before)
	}
}

// sight is all that can be seen of a bank without changing it, over the numbers that these tests use.
func sight(b *escrow.Bank) string {
	s := fmt.Sprintf("%x\n", b.Tick())
	for a := api.Account(0); a < 24; a++ {
		if f, e := b.Funds(a); e == api.OK {
			s += fmt.Sprintf("account %d: %v\n", a, f)
		}
	}
	for id := api.ID(0); id < 261; id++ {
		for leg := uint8(0); leg < 4; leg++ {
			if state, e := b.Leg(id, leg); e == api.OK {
				s += fmt.Sprintf("leg %d.%d: %d\n", id, leg, state)
			}
		}
	}
	return s
}

func funds(t *testing.T, b *escrow.Bank, a api.Account, balance, held, due api.Amount) {
	t.Helper()
	want := api.Funds{Balance: balance, Held: held, Due: due}
	if f, e := b.Funds(a); f != want || e != api.OK {
		t.Fatalf("Funds(%d) = %+v, %d, want %+v", a, f, e, want)
	}
}

func noAccount(t *testing.T, b *escrow.Bank, a api.Account) {
	t.Helper()
	if f, e := b.Funds(a); f != (api.Funds{}) || e != api.ErrAccount {
		t.Fatalf("Funds(%d) = %+v, %d, want ErrAccount", a, f, e)
	}
}

// stands asks for a leg's state; 0 says that it is not kept.
func stands(t *testing.T, b *escrow.Bank, id api.ID, leg uint8, want api.State) {
	t.Helper()
	wrong := api.OK
	if want == 0 {
		wrong = api.ErrUnknown
	}
	if state, e := b.Leg(id, leg); state != want || e != wrong {
		t.Fatalf("Leg(%d, %d) = %d, %d, want %d, %d", id, leg, state, e, want, wrong)
	}
}

func TestP6NewBank(t *testing.T) {
	for n := 0; n < 256; n++ {
		b, e := escrow.NewBank(api.Node(n))
		if 1 <= n && n <= 7 {
			if b == nil || e != api.OK {
				t.Fatalf("NewBank(%d) = %v, %d", n, b, e)
			}
			if s := sight(b); s != "[]\n" {
				t.Errorf("NewBank(%d) has something: %s", n, s)
			}
		} else if b != nil || e != api.ErrNode {
			t.Errorf("NewBank(%d) = %v, %d, want nil, ErrNode", n, b, e)
		}
	}
}

func TestP6Open(t *testing.T) {
	b := opened(t, 1500, 0)
	open(t, b, 5, 1, api.ErrExists)
	open(t, b, 5, 1500, api.ErrExists)
	open(t, b, 6, 7, api.ErrExists)
	open(t, b, 0, 3, api.OK)
	open(t, b, 65535, api.MaxAmount, api.OK)
	funds(t, b, 5, 1500, 0, 0)
	funds(t, b, 6, 0, 0, 0)
	funds(t, b, 0, 3, 0, 0)
	funds(t, b, 65535, api.MaxAmount, 0, 0)
	noAccount(t, b, 1)
	noAccount(t, b, 65534)
	noAccount(t, b, 5+256)
}

func TestP6OpenFull(t *testing.T) {
	b := newBank(t, 7)
	for a := api.Account(16); a > 0; a-- {
		open(t, b, a, api.Amount(a)*10, api.OK)
	}
	before := sight(b)
	open(t, b, 17, 1, api.ErrFull)
	open(t, b, 0, 0, api.ErrFull)
	// ErrExists is named first.
	open(t, b, 1, 1, api.ErrExists)
	open(t, b, 16, 1, api.ErrExists)
	if after := sight(b); after != before {
		t.Errorf("changed: %s\nwas %s", after, before)
	}
	noAccount(t, b, 17)
	noAccount(t, b, 0)
	for a := api.Account(1); a <= 16; a++ {
		funds(t, b, a, api.Amount(a)*10, 0, 0)
	}
}

// Held and Due are sums over the legs that are held, and over no others.
func TestP6Funds(t *testing.T) {
	b := opened(t, 1500, 40, 0)
	answer(t, b, asking(1, 0, 5, 6, 100), api.Prepared)
	answer(t, b, asking(1, 3, 5, 7, 200), api.Prepared)
	answer(t, b, asking(2, 0, 6, 5, 40), api.Prepared)
	answer(t, b, asking(3, 0, 5, 6, 400), api.Prepared)
	funds(t, b, 5, 1500, 700, 40)
	funds(t, b, 6, 40, 40, 500)
	funds(t, b, 7, 0, 0, 200)
	answer(t, b, asking(4, 0, 5, 6, 900), api.Refused)
	funds(t, b, 5, 1500, 700, 40)
	answer(t, b, saying(api.Reject, 3, 0), api.Done)
	funds(t, b, 5, 1500, 300, 40)
	funds(t, b, 6, 40, 40, 100)
	answer(t, b, saying(api.Execute, 1, 3), api.Done)
	funds(t, b, 5, 1300, 100, 40)
	funds(t, b, 7, 200, 0, 0)
	answer(t, b, saying(api.Execute, 2, 0), api.Done)
	funds(t, b, 5, 1340, 100, 0)
	funds(t, b, 6, 0, 0, 100)
	noAccount(t, b, 8)
}

func TestP7Example5(t *testing.T) {
	b := opened(t, 1500, 0)
	open(t, b, 5, 1, api.ErrExists)
	for range 2 {
		answer(t, b, prepare(), api.Prepared)
		funds(t, b, 5, 1500, 1000, 0)
		funds(t, b, 6, 0, 0, 1000)
		stands(t, b, 258, 1, api.Held)
	}
	m := prepare()
	m.Amount = 999
	refuse(t, b, spelled(m), api.ErrConflict)
	answer(t, b, asking(259, 0, 5, 6, 501), api.Refused)
	answer(t, b, asking(260, 0, 5, 6, 500), api.Prepared)
	answer(t, b, saying(api.Execute, 258, 1), api.Done)
	funds(t, b, 5, 500, 500, 0)
	funds(t, b, 6, 1000, 0, 500)
}

func TestP7Example6(t *testing.T) {
	b := opened(t, 1500, 0)
	answer(t, b, saying(api.Reject, 258, 1), api.Done)
	stands(t, b, 258, 1, api.Released)
	answer(t, b, prepare(), api.Done)
	stands(t, b, 258, 1, api.Released)
	refuse(t, b, spelled(saying(api.Execute, 258, 1)), api.ErrState)
	funds(t, b, 5, 1500, 0, 0)
}

func TestP7Example7(t *testing.T) {
	b := opened(t, 1500, api.MaxAmount)
	answer(t, b, asking(1, 0, 5, 6, 1), api.Refused)
	stands(t, b, 1, 0, api.Denied)
}

// step: a message, and the kind or the error that it must come to, and how the leg then stands.
type step struct {
	m     api.Msg
	k     api.Kind
	wrong api.Errno
	state api.State
}

// Each state of a leg meets each message.
func TestP7EveryStateEveryMessage(t *testing.T) {
	good, broke := asking(1, 2, 5, 6, 100), asking(1, 2, 5, 6, 2000)
	execute, reject := saying(api.Execute, 1, 2), saying(api.Reject, 1, 2)
	for _, way := range []struct {
		name string
		come []step
		meet []step
	}{
		{"not kept", nil, []step{
			{good, api.Prepared, 0, api.Held}, {broke, api.Refused, 0, api.Denied},
			{execute, 0, api.ErrState, 0}, {reject, api.Done, 0, api.Released}}},
		{"held", []step{{good, api.Prepared, 0, api.Held}}, []step{
			{good, api.Prepared, 0, api.Held}, {broke, 0, api.ErrConflict, api.Held},
			{execute, api.Done, 0, api.Executed}, {reject, api.Done, 0, api.Released}}},
		{"denied", []step{{broke, api.Refused, 0, api.Denied}}, []step{
			{broke, api.Refused, 0, api.Denied}, {good, 0, api.ErrConflict, api.Denied},
			{execute, 0, api.ErrState, api.Denied}, {reject, api.Done, 0, api.Released}}},
		{"executed", []step{{good, api.Prepared, 0, api.Held}, {execute, api.Done, 0, api.Executed}}, []step{
			{good, api.Done, 0, api.Executed}, {broke, 0, api.ErrConflict, api.Executed},
			{execute, api.Done, 0, api.Executed}, {reject, 0, api.ErrState, api.Executed}}},
		{"held, released", []step{{good, api.Prepared, 0, api.Held}, {reject, api.Done, 0, api.Released}}, []step{
			{good, api.Done, 0, api.Released}, {broke, 0, api.ErrConflict, api.Released},
			{execute, 0, api.ErrState, api.Released}, {reject, api.Done, 0, api.Released}}},
		{"denied, released", []step{{broke, api.Refused, 0, api.Denied}, {reject, api.Done, 0, api.Released}}, []step{
			{broke, api.Done, 0, api.Released}, {good, 0, api.ErrConflict, api.Released},
			{execute, 0, api.ErrState, api.Released}, {reject, api.Done, 0, api.Released}}},
		{"released", []step{{reject, api.Done, 0, api.Released}}, []step{
			{good, api.Done, 0, api.Released}, {broke, api.Done, 0, api.Released},
			{execute, 0, api.ErrState, api.Released}, {reject, api.Done, 0, api.Released}}},
		{"released, asked", []step{{reject, api.Done, 0, api.Released}, {good, api.Done, 0, api.Released}}, []step{
			{good, api.Done, 0, api.Released}, {broke, api.Done, 0, api.Released},
			{execute, 0, api.ErrState, api.Released}, {reject, api.Done, 0, api.Released}}},
	} {
		for _, last := range way.meet {
			t.Run(fmt.Sprintf("%s, kind %d, amount %d", way.name, last.m.Kind, last.m.Amount), func(t *testing.T) {
				b := opened(t, 1500, 0)
				for _, s := range append(slices.Clone(way.come), last) {
					goStep(t, b, s)
				}
				checkFunds(t, b, last.state)
			})
		}
	}
}

func goStep(t *testing.T, b *escrow.Bank, s step) {
	t.Helper()
	if s.wrong != api.OK {
		refuse(t, b, spelled(s.m), s.wrong)
	} else {
		answer(t, b, s.m, s.k)
	}
	stands(t, b, s.m.ID, s.m.Leg, s.state)
}

// checkFunds asks for what a bank of 1500 and 0 has, whose one leg is of 100 if it is held or was carried out.
func checkFunds(t *testing.T, b *escrow.Bank, s api.State) {
	t.Helper()
	switch s {
	case api.Held:
		funds(t, b, 5, 1500, 100, 0)
		funds(t, b, 6, 0, 0, 100)
	case api.Executed:
		funds(t, b, 5, 1400, 0, 0)
		funds(t, b, 6, 100, 0, 0)
	default:
		funds(t, b, 5, 1500, 0, 0)
		funds(t, b, 6, 0, 0, 0)
	}
}

// Each part of a Prepare makes it another one; and the legs are told apart by both their numbers.
func TestP7Conflict(t *testing.T) {
	for _, state := range []api.State{api.Held, api.Denied, api.Executed, api.Released} {
		b := opened(t, 1500, 0, 10)
		m := prepare()
		switch state {
		case api.Denied:
			m.Amount = 2000
			answer(t, b, m, api.Refused)
		case api.Executed:
			answer(t, b, m, api.Prepared)
			answer(t, b, saying(api.Execute, m.ID, m.Leg), api.Done)
		case api.Released:
			answer(t, b, m, api.Prepared)
			answer(t, b, saying(api.Reject, m.ID, m.Leg), api.Done)
		default:
			answer(t, b, m, api.Prepared)
		}
		for i := range 9 {
			other := m
			switch i {
			case 0:
				other.Pay = 7
			case 1:
				other.Get = 7
			case 2:
				other.Amount++
			case 3:
				other.Amount--
			case 4:
				other.Memo = ""
			case 5:
				other.Memo = "e"
			case 6:
				other.Memo = "éé"
			case 7:
				other.Pay, other.Get = m.Get, m.Pay
			case 8:
				other.Memo = "é\x00"
			}
			refuse(t, b, spelled(other), api.ErrConflict)
		}
		stands(t, b, m.ID, m.Leg, state)
	}
}

func TestP7LegsByBothNumbers(t *testing.T) {
	b := opened(t, 1500, 0)
	answer(t, b, asking(1, 2, 5, 6, 10), api.Prepared)
	for _, other := range []api.Msg{asking(1, 1, 5, 6, 20), asking(2, 2, 5, 6, 30), asking(2, 1, 6, 5, 1)} {
		stands(t, b, other.ID, other.Leg, 0)
		refuse(t, b, spelled(saying(api.Execute, other.ID, other.Leg)), api.ErrState)
	}
	answer(t, b, asking(1, 1, 5, 6, 20), api.Prepared)
	answer(t, b, asking(2, 2, 5, 6, 30), api.Prepared)
	answer(t, b, asking(2, 1, 6, 5, 1), api.Refused)
	answer(t, b, saying(api.Execute, 2, 2), api.Done)
	answer(t, b, saying(api.Reject, 1, 1), api.Done)
	stands(t, b, 1, 2, api.Held)
	stands(t, b, 1, 1, api.Released)
	stands(t, b, 2, 2, api.Executed)
	stands(t, b, 2, 1, api.Denied)
	funds(t, b, 5, 1470, 10, 0)
	for _, leg := range []uint8{4, 5, 129, 255} {
		stands(t, b, 1, leg, 0)
	}
	stands(t, b, 1<<16+1, 2, 0)
	stands(t, b, 1<<32-1, 2, 0)
}

// An account that is not there denies; and one that is opened later does not turn that.
func TestP7NoAccount(t *testing.T) {
	b := opened(t, 1500)
	answer(t, b, asking(1, 0, 5, 6, 1), api.Refused)
	answer(t, b, asking(2, 0, 6, 5, 1), api.Refused)
	answer(t, b, asking(3, 0, 6, 7, 1), api.Refused)
	answer(t, b, asking(4, 0, 6, 6, 1), api.Refused)
	open(t, b, 6, 10, api.OK)
	answer(t, b, asking(1, 0, 5, 6, 1), api.Refused)
	answer(t, b, asking(2, 0, 6, 5, 1), api.Refused)
	funds(t, b, 6, 10, 0, 0)
	answer(t, b, asking(5, 0, 6, 5, 10), api.Prepared)
	funds(t, b, 5, 1500, 0, 10)
}

// Balance less Held, to the last unit, and where 32 bits would run over.
func TestP7WhatIsThere(t *testing.T) {
	b := opened(t, api.MaxAmount, 0, 0)
	answer(t, b, asking(1, 0, 6, 5, 1), api.Refused)
	answer(t, b, asking(2, 0, 5, 6, api.MaxAmount-1), api.Prepared)
	answer(t, b, asking(3, 0, 5, 7, 2), api.Refused)
	answer(t, b, asking(4, 0, 5, 7, api.MaxAmount), api.Refused)
	answer(t, b, asking(5, 0, 5, 7, 1), api.Prepared)
	answer(t, b, asking(6, 0, 5, 7, 1), api.Refused)
	funds(t, b, 5, api.MaxAmount, api.MaxAmount, 0)
	// What is due is not there yet.
	answer(t, b, asking(7, 0, 6, 7, 1), api.Refused)
	answer(t, b, saying(api.Execute, 2, 0), api.Done)
	answer(t, b, asking(8, 0, 6, 7, 1), api.Prepared)
	funds(t, b, 5, 1, 1, 0)
	funds(t, b, 6, api.MaxAmount-1, 1, 0)
	funds(t, b, 7, 0, 0, 2)
}

// Balance, Due and the amount together, to the last unit, and where 32 bits would run over.
func TestP7WhatCanBeTaken(t *testing.T) {
	b := opened(t, api.MaxAmount, 100, api.MaxAmount)
	answer(t, b, asking(1, 0, 5, 6, api.MaxAmount-99), api.Refused)
	answer(t, b, asking(2, 0, 5, 6, api.MaxAmount), api.Refused)
	answer(t, b, asking(3, 0, 5, 6, api.MaxAmount-150), api.Prepared)
	answer(t, b, asking(4, 0, 7, 6, 51), api.Refused)
	answer(t, b, asking(5, 0, 7, 6, api.MaxAmount), api.Refused)
	answer(t, b, asking(6, 0, 7, 6, 50), api.Prepared)
	answer(t, b, asking(7, 0, 7, 6, 1), api.Refused)
	funds(t, b, 6, 100, 0, api.MaxAmount-100)
	// What is held of an account does not make room in it.
	answer(t, b, asking(8, 0, 6, 5, 100), api.Refused)
	answer(t, b, asking(9, 0, 6, 7, 1), api.Refused)
	answer(t, b, saying(api.Execute, 3, 0), api.Done)
	answer(t, b, saying(api.Execute, 6, 0), api.Done)
	funds(t, b, 6, api.MaxAmount, 0, 0)
	funds(t, b, 5, 150, 0, 0)
	funds(t, b, 7, api.MaxAmount-50, 0, 0)
}

// An account that pays itself must have the amount and the room for it, and has afterwards what it had.
func TestP7PaysItself(t *testing.T) {
	b := opened(t, 1500, api.MaxAmount, api.MaxAmount/2+1)
	answer(t, b, asking(1, 0, 5, 5, 1501), api.Refused)
	answer(t, b, asking(2, 0, 5, 5, 1500), api.Prepared)
	funds(t, b, 5, 1500, 1500, 1500)
	answer(t, b, asking(3, 0, 5, 5, 1), api.Refused)
	answer(t, b, saying(api.Execute, 2, 0), api.Done)
	funds(t, b, 5, 1500, 0, 0)
	answer(t, b, asking(4, 0, 6, 6, 1), api.Refused)
	answer(t, b, asking(5, 0, 7, 7, api.MaxAmount/2+1), api.Refused)
	answer(t, b, asking(6, 0, 7, 7, api.MaxAmount/2), api.Prepared)
}

func TestP7Full(t *testing.T) {
	b := opened(t, 1500, 0)
	for id := api.ID(1); id <= 32; id++ {
		answer(t, b, asking(id, 0, 5, 6, 1), api.Prepared)
		answer(t, b, asking(id, 1, 5, 9, 1), api.Refused)
		answer(t, b, saying(api.Reject, id, 2), api.Done)
		answer(t, b, asking(id, 3, 6, 5, 1), api.Refused)
	}
	refuse(t, b, spelled(asking(33, 0, 5, 6, 1)), api.ErrFull)
	refuse(t, b, spelled(asking(33, 0, 5, 6, 2000)), api.ErrFull)
	refuse(t, b, spelled(asking(0, 0, 5, 9, 1)), api.ErrFull)
	refuse(t, b, spelled(saying(api.Reject, 33, 0)), api.ErrFull)
	refuse(t, b, spelled(saying(api.Reject, 0, 0)), api.ErrFull)
	refuse(t, b, spelled(saying(api.Execute, 33, 0)), api.ErrState)
	// Legs that are kept go on.
	answer(t, b, asking(32, 0, 5, 6, 1), api.Prepared)
	refuse(t, b, spelled(asking(32, 0, 5, 6, 2)), api.ErrConflict)
	answer(t, b, saying(api.Execute, 32, 0), api.Done)
	answer(t, b, saying(api.Reject, 1, 0), api.Done)
	answer(t, b, saying(api.Reject, 1, 1), api.Done)
	answer(t, b, asking(1, 2, 5, 6, 7), api.Done)
	funds(t, b, 5, 1499, 30, 0)
	open(t, b, 7, 1, api.OK)
	// What has been let go or carried out is kept on.
	refuse(t, b, spelled(asking(33, 0, 5, 6, 1)), api.ErrFull)
}

// The 128th leg has room.
func TestP7LastPlace(t *testing.T) {
	for _, last := range []api.Msg{asking(127, 0, 5, 6, 1), saying(api.Reject, 127, 0)} {
		b := opened(t, 1500, 0)
		for id := api.ID(0); id < 127; id++ {
			answer(t, b, saying(api.Reject, id, 0), api.Done)
		}
		kind := api.Done
		if last.Kind == api.Prepare {
			kind = api.Prepared
		}
		answer(t, b, last, kind)
		refuse(t, b, spelled(saying(api.Reject, 127, 1)), api.ErrFull)
	}
}

// A frame that is none comes ahead of a wrong bank, and a wrong bank ahead of what the leg would say.
func TestP7WrongFrames(t *testing.T) {
	b := opened(t, 1500, 0)
	answer(t, b, prepare(), api.Prepared)
	good := spelled(prepare())
	refuse(t, b, "", api.ErrFrame)
	refuse(t, b, good[:len(good)-1], api.ErrFrame)
	refuse(t, b, good+"\x00", api.ErrFrame)
	refuse(t, b, good[:len(good)-1]+"\x00", api.ErrSum)
	for to := api.Node(0); to < 9; to++ {
		if to == 3 {
			continue
		}
		for k := api.Prepare; k <= api.Reject; k++ {
			m := prepare()
			if k != api.Prepare {
				m = saying(k, 258, 1)
			}
			m.To = to
			refuse(t, b, spelled(m), api.ErrNode)
			m.Leg = 4
			if to != 0 && to != 8 {
				refuse(t, b, spelled(m), api.ErrLeg)
			}
		}
	}
	for k := api.Prepared; k <= api.Done; k++ {
		refuse(t, b, spelled(api.Msg{Kind: k, From: 3, ID: 258, Leg: 1}), api.ErrNode)
		refuse(t, b, spelled(api.Msg{Kind: k, To: 3, ID: 258, Leg: 1}), api.ErrNode)
	}
	other := withMemo("\xff")
	other.To = 4
	refuse(t, b, spelled(other), api.ErrMemo)
	other.Memo, other.Amount = "é", 0
	refuse(t, b, spelled(other), api.ErrAmount)
	refuse(t, b, spelled(api.Msg{Kind: 9, To: 3}), api.ErrKind)
	refuse(t, b, spelled(api.Msg{Kind: api.Execute, To: 3, ID: 258, Leg: 1, Amount: 1}), api.ErrKind)
}

// Each bank answers to its own number, and from it.
func TestP7EachBank(t *testing.T) {
	for n := api.Node(1); n <= 7; n++ {
		b := newBank(t, n)
		open(t, b, 5, 10, api.OK)
		open(t, b, 6, 0, api.OK)
		m := asking(1<<32-1, 3, 5, 6, 10)
		m.To = n
		answer(t, b, m, api.Prepared)
		want := []string{spelled(api.Msg{Kind: api.Prepared, From: n, ID: 1<<32 - 1, Leg: 3})}
		if out := b.Tick(); !slices.Equal(out, want) {
			t.Errorf("Tick() = %x, want %x", out, want)
		}
		m.To = n%7 + 1
		refuse(t, b, spelled(m), api.ErrNode)
	}
}

// told are the frames of a Tick of bank 3 that tells of these legs.
func told(legs ...api.Msg) []string {
	out := []string{}
	for _, m := range legs {
		out = append(out, spelled(api.Msg{Kind: api.Prepared, From: 3, ID: m.ID, Leg: m.Leg}))
	}
	return out
}

func TestP8Tick(t *testing.T) {
	b := newBank(t, 3)
	if out := b.Tick(); len(out) != 0 {
		t.Errorf("of a new bank: %x", out)
	}
	numbers := []api.Msg{}
	for _, id := range []api.ID{0, 1, 2, 255, 256, 65536, 1 << 31, 1<<32 - 1} {
		for leg := uint8(0); leg < 4; leg++ {
			numbers = append(numbers, asking(id, leg, 5, 6, 1))
		}
	}
	r := rand.New(rand.NewSource(8))
	for range 50 {
		b := opened(t, 1500, 0)
		for _, i := range r.Perm(len(numbers)) {
			answer(t, b, numbers[i], api.Prepared)
		}
		if out := b.Tick(); !slices.Equal(out, told(numbers...)) {
			t.Fatalf("Tick() = %x, want %x", out, told(numbers...))
		}
	}
}

// Only legs that are held are told of, and a tick changes nothing.
func TestP8OnlyHeld(t *testing.T) {
	b := opened(t, 1500, 0)
	held := asking(9, 1, 5, 6, 10)
	answer(t, b, asking(10, 0, 5, 6, 5000), api.Refused)
	answer(t, b, asking(8, 0, 5, 6, 10), api.Prepared)
	answer(t, b, asking(9, 0, 5, 6, 10), api.Prepared)
	answer(t, b, held, api.Prepared)
	answer(t, b, saying(api.Reject, 9, 2), api.Done)
	answer(t, b, saying(api.Execute, 8, 0), api.Done)
	answer(t, b, saying(api.Reject, 9, 0), api.Done)
	before := sight(b)
	for range 3 {
		if out := b.Tick(); !slices.Equal(out, told(held)) {
			t.Errorf("Tick() = %x, want %x", out, told(held))
		}
	}
	if after := sight(b); after != before {
		t.Errorf("Tick changed the bank: %s\nwas %s", after, before)
	}
	answer(t, b, saying(api.Execute, 9, 1), api.Done)
	if out := b.Tick(); len(out) != 0 {
		t.Errorf("Tick() = %x", out)
	}
}

// All 128 legs held, and each told of.
func TestP8AllHeld(t *testing.T) {
	b := opened(t, 1500, 0)
	all := []api.Msg{}
	for id := api.ID(0); id < 32; id++ {
		for leg := uint8(0); leg < 4; leg++ {
			all = append(all, asking(id, leg, 5, 6, 2))
		}
	}
	for i := range all {
		answer(t, b, all[len(all)-1-i], api.Prepared)
	}
	if out := b.Tick(); !slices.Equal(out, told(all...)) {
		t.Errorf("Tick() = %x, want %x", out, told(all...))
	}
	funds(t, b, 5, 1500, 256, 0)
}

func TestP1BankAnyInput(t *testing.T) {
	r := rand.New(rand.NewSource(11))
	b := opened(t, 1500, 0)
	answer(t, b, asking(1, 0, 5, 6, 1), api.Prepared)
	before := sight(b)
	for i := 0; i < 20000; i++ {
		s := []byte(spelled(prepare()))
		if i%2 == 0 {
			s[r.Intn(len(s))] ^= byte(1 + r.Intn(255))
		} else {
			s = make([]byte, r.Intn(100))
			r.Read(s)
		}
		if out, log, e := b.Handle(string(s)); e == api.OK || len(out) != 0 || log != "" {
			t.Fatalf("Handle(%x) = %x, %x, %d", s, out, log, e)
		}
	}
	refuse(t, b, strings.Repeat("E", 1<<20), api.ErrFrame)
	if after := sight(b); after != before {
		t.Errorf("changed: %s\nwas %s", after, before)
	}
}

// Two banks of one number and one of another go their own ways.
func TestP2BanksApart(t *testing.T) {
	a, b := opened(t, 1500, 0), opened(t, 1500, 0)
	c := newBank(t, 4)
	beforeB, beforeC := sight(b), sight(c)
	answer(t, a, asking(1, 0, 5, 6, 100), api.Prepared)
	answer(t, a, saying(api.Execute, 1, 0), api.Done)
	answer(t, a, saying(api.Reject, 2, 0), api.Done)
	open(t, a, 9, 9, api.OK)
	if sight(b) != beforeB || sight(c) != beforeC {
		t.Errorf("a bank disturbed another one: %s, %s", sight(b), sight(c))
	}
	beforeA := sight(a)
	answer(t, b, asking(1, 0, 5, 6, 7), api.Prepared)
	open(t, c, 9, 1, api.OK)
	if sight(a) != beforeA {
		t.Errorf("a bank disturbed another one: %s, was %s", sight(a), beforeA)
	}
}

// A frame whose bytes are used for something else afterwards: what the bank kept of it must be its own.
func TestP2NothingKept(t *testing.T) {
	b := opened(t, 1500, 0)
	frame := []byte(spelled(prepare()))
	room := append(frame, "spare room"...)
	before := string(room)
	out, _, e := b.Handle(unsafe.String(&room[0], len(frame)))
	if len(out) != 1 || e != api.OK || string(room) != before {
		t.Fatalf("Handle = %x, %d; %x, was %x", out, e, room, before)
	}
	for i := range room {
		room[i] = '?'
	}
	answer(t, b, prepare(), api.Prepared)
	refuse(t, b, spelled(withMemo("??")), api.ErrConflict)
	if want := told(prepare()); !slices.Equal(out, want) {
		t.Errorf("what came out is now %x, want %x", out, want)
	}
}

// Lists that came out are written over, with their spare room; no other list and no later answer hears of it.
func TestP2FreshLists(t *testing.T) {
	b := opened(t, 1500, 0)
	all := []api.Msg{}
	for id := api.ID(0); id < 5; id++ {
		all = append(all, asking(id, 0, 5, 6, 2))
		answer(t, b, all[id], api.Prepared)
	}
	first, other := b.Tick(), b.Tick()
	one, _, _ := b.Handle(spelled(all[0]))
	two, _, _ := b.Handle(spelled(all[0]))
	for _, list := range [][]string{first, one} {
		whole := list[:cap(list)]
		for i := range whole {
			whole[i] = "x"
		}
	}
	if !slices.Equal(other, told(all...)) || !slices.Equal(two, told(all[0])) {
		t.Errorf("%x, %x", other, two)
	}
	if out := b.Tick(); !slices.Equal(out, told(all...)) {
		t.Errorf("Tick() = %x, want %x", out, told(all...))
	}
	answer(t, b, all[0], api.Prepared)
}

// model is the document's bank, told in another way: maps, and sums in 64 bits.
type model struct {
	balance map[api.Account]int64
	legs    map[[2]uint32]*modelLeg
}

type modelLeg struct {
	came  api.Msg
	state api.State
}

func (d *model) sums(a api.Account) (held, due int64) {
	for _, l := range d.legs {
		if l.state == api.Held && l.came.Pay == a {
			held += int64(l.came.Amount)
		}
		if l.state == api.Held && l.came.Get == a {
			due += int64(l.came.Amount)
		}
	}
	return held, due
}

func (d *model) open(a api.Account, balance api.Amount) api.Errno {
	if _, is := d.balance[a]; is {
		return api.ErrExists
	}
	if len(d.balance) == 16 {
		return api.ErrFull
	}
	d.balance[a] = int64(balance)
	return api.OK
}

func (d *model) handle(m api.Msg) (api.Kind, api.Errno) {
	if m.To != 3 {
		return 0, api.ErrNode
	}
	key := [2]uint32{uint32(m.ID), uint32(m.Leg)}
	l := d.legs[key]
	fresh := l == nil
	switch {
	case m.Kind == api.Execute && (fresh || l.state == api.Denied || l.state == api.Released):
		return 0, api.ErrState
	case m.Kind == api.Reject && !fresh && l.state == api.Executed:
		return 0, api.ErrState
	case fresh && len(d.legs) == 128:
		return 0, api.ErrFull
	case m.Kind == api.Prepare && !fresh && l.came.Kind == api.Prepare && l.came != m:
		return 0, api.ErrConflict
	}
	if fresh {
		l = &modelLeg{came: m, state: d.first(m)}
		d.legs[key] = l
	}
	if m.Kind == api.Reject {
		l.state = api.Released
	}
	if m.Kind == api.Execute && l.state == api.Held {
		l.state = api.Executed
		d.balance[l.came.Pay] -= int64(l.came.Amount)
		d.balance[l.came.Get] += int64(l.came.Amount)
	}
	return map[api.State]api.Kind{1: api.Prepared, 2: api.Refused, 3: api.Done, 4: api.Done}[l.state], api.OK
}

func (d *model) first(m api.Msg) api.State {
	pay, isPay := d.balance[m.Pay]
	get, isGet := d.balance[m.Get]
	held, _ := d.sums(m.Pay)
	_, due := d.sums(m.Get)
	if isPay && isGet && pay-held >= int64(m.Amount) && get+due+int64(m.Amount) <= 1<<32-1 {
		return api.Held
	}
	return api.Denied
}

// tick: the keys of what is held, in the document's order.
func (d *model) tick() []string {
	keys := []api.Msg{}
	for _, l := range d.legs {
		if l.state == api.Held {
			keys = append(keys, l.came)
		}
	}
	slices.SortFunc(keys, func(a, b api.Msg) int {
		if a.ID != b.ID {
			return int(int64(a.ID) - int64(b.ID))
		}
		return int(a.Leg) - int(b.Leg)
	})
	return told(keys...)
}

// Long walks of frames that come twice, late, in any order and to the wrong bank, beside the model. What P13 says
// of one bank is asked for on the way.
func TestP7AsTheModel(t *testing.T) {
	for seed := range int64(60) {
		walk(t, rand.New(rand.NewSource(seed)))
	}
}

func walk(t *testing.T, r *rand.Rand) {
	t.Helper()
	b := newBank(t, 3)
	d := &model{balance: map[api.Account]int64{}, legs: map[[2]uint32]*modelLeg{}}
	ids := 4 + r.Intn(60)
	total := int64(0)
	for range 600 {
		if r.Intn(20) == 0 {
			a, balance := api.Account(r.Intn(20)), someAmount(r)
			want := d.open(a, balance)
			open(t, b, a, balance, want)
			if want == api.OK {
				total += int64(balance)
			}
		}
		m := someMessage(r, ids)
		k, want := d.handle(m)
		if want == api.OK {
			answer(t, b, m, k)
		} else if out, log, e := b.Handle(spelled(m)); e != want || len(out) != 0 || log != "" {
			t.Fatalf("Handle(%+v) = %x, %x, %d, want %d", m, out, log, e, want)
		}
		checkModel(t, b, d, total)
	}
}

func checkModel(t *testing.T, b *escrow.Bank, d *model, total int64) {
	t.Helper()
	sum := int64(0)
	for a := api.Account(0); a < 20; a++ {
		balance, is := d.balance[a]
		if !is {
			noAccount(t, b, a)
			continue
		}
		held, due := d.sums(a)
		funds(t, b, a, api.Amount(balance), api.Amount(held), api.Amount(due))
		sum += balance
		if held > balance || balance+due > api.MaxAmount {
			t.Fatalf("account %d: %d, held %d, due %d", a, balance, held, due)
		}
	}
	if sum != total {
		t.Fatalf("all balances together: %d, opened %d", sum, total)
	}
	for key, l := range d.legs {
		stands(t, b, api.ID(key[0]), uint8(key[1]), l.state)
	}
	if out := b.Tick(); !slices.Equal(out, d.tick()) {
		t.Fatalf("Tick() = %x, want %x", out, d.tick())
	}
}

func someAmount(r *rand.Rand) api.Amount {
	switch r.Intn(4) {
	case 0:
		return api.MaxAmount - api.Amount(r.Intn(3))
	case 1:
		return api.Amount(r.Uint32())
	}
	return api.Amount(1 + r.Intn(300))
}

func someMessage(r *rand.Rand, ids int) api.Msg {
	m := api.Msg{Kind: api.Kind(1 + r.Intn(3)), To: 3, ID: api.ID(r.Intn(ids)), Leg: uint8(r.Intn(4))}
	if r.Intn(20) == 0 {
		m.To = api.Node(1 + r.Intn(7))
	}
	if m.Kind == api.Prepare {
		// The terms mostly hang on the numbers, so that a Prepare comes again as it was.
		fixed := rand.New(rand.NewSource(int64(m.ID)*4 + int64(m.Leg)))
		if r.Intn(10) == 0 {
			fixed = r
		}
		m.Pay, m.Get = api.Account(fixed.Intn(20)), api.Account(fixed.Intn(20))
		m.Amount, m.Memo = someAmount(fixed), []string{"", "a", "é"}[fixed.Intn(3)]
	}
	return m
}
