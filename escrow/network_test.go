package escrow_test

import (
	"math/rand"
	"slices"
	"testing"

	"escrow/api"
	"escrow/escrow"
)

// network is a notary and banks, with what each has logged, what is under way between them, and what must never be
// seen of them.
type network struct {
	t        *testing.T
	r        *rand.Rand
	banks    [8]*escrow.Bank // none at 0
	deed     *escrow.Deed
	logs     [8]string
	wire     []string
	opened   [8]int64
	paid     []api.Payment
	fallible bool // whether nodes fall over
}

const accounts = 4 // that each bank of a network has

// newNetwork has banks with some accounts, of which two are near what an account can hold.
func newNetwork(t *testing.T, r *rand.Rand) *network {
	t.Helper()
	x := &network{t: t, r: r, deed: escrow.NewDeed(), fallible: true}
	for n := api.Node(1); n <= 7; n++ {
		x.banks[n] = newBank(t, n)
		for a := range api.Account(accounts) {
			balance := api.Amount(r.Intn(200))
			if a >= 2 {
				balance = api.MaxAmount - balance
			}
			text, e := x.banks[n].Open(a, balance)
			if e != api.OK {
				t.Fatalf("Open: %d", e)
			}
			x.logs[n] += text
			x.opened[n] += int64(balance)
		}
	}
	return x
}

// came lays down what a call of a node logged, and sends what it sent. The node may fall over: either in the midst of
// the log text, and then nothing was sent; or behind it.
func (x *network) came(n api.Node, out []string, text string) {
	x.t.Helper()
	whole := len(text)
	if x.fallible && x.r.Intn(10) == 0 {
		whole = x.r.Intn(len(text) + 1)
	}
	if whole < len(text) {
		x.restore(n, x.logs[n]+text[:whole])
		return
	}
	x.logs[n] += text
	x.wire = append(x.wire, out...)
	if x.fallible && x.r.Intn(10) == 0 {
		x.restore(n, x.logs[n])
	}
}

func (x *network) restore(n api.Node, log string) {
	x.t.Helper()
	e := api.OK
	if n == api.Notary {
		x.deed, e = escrow.RestoreDeed(log)
	} else {
		x.banks[n], e = escrow.RestoreBank(n, log)
	}
	if e != api.OK || x.deed == nil || n != 0 && x.banks[n] == nil {
		x.t.Fatalf("node %d was not restored from %x: %d", n, log, e)
	}
}

func (x *network) submit(p api.Payment) {
	x.t.Helper()
	out, text, e := x.deed.Submit(p)
	if e != api.OK {
		x.t.Fatalf("Submit(%+v): %d", p, e)
	}
	x.came(api.Notary, out, text)
	// A payment of which the notary was not left with its log has never been there, and nothing of it was sent.
	if _, e := x.deed.Status(p.ID); e == api.OK {
		x.paid = append(x.paid, p)
	}
}

// arrive hands a frame to the node that it goes to. No node ever has a word against what another one sent.
func (x *network) arrive(frame string) {
	x.t.Helper()
	m, e := escrow.Decode(frame)
	if e != api.OK {
		x.t.Fatalf("Decode(%x): %d", frame, e)
	}
	out, text := []string{}, ""
	if m.To == api.Notary {
		out, text, e = x.deed.Handle(frame)
	} else {
		out, text, e = x.banks[m.To].Handle(frame)
	}
	if e != api.OK {
		x.t.Fatalf("node %d took %+v for an error: %d", m.To, m, e)
	}
	x.came(m.To, out, text)
}

func (x *network) tick() {
	x.t.Helper()
	out, text, e := x.deed.Tick()
	if e != api.OK {
		x.t.Fatalf("Tick: %d", e)
	}
	x.came(api.Notary, out, text)
}

func (x *network) bankTick(n api.Node) {
	x.wire = append(x.wire, x.banks[n].Tick()...)
}

// take draws a frame that is under way, and lets it stay there at times: then it comes again.
func (x *network) take() string {
	i := x.r.Intn(len(x.wire))
	frame := x.wire[i]
	if x.r.Intn(4) > 0 {
		x.wire = slices.Delete(x.wire, i, i+1)
	}
	return frame
}

// happen lets one thing come about.
func (x *network) happen(calm int) {
	x.t.Helper()
	switch k := x.r.Intn(20); {
	case k == 0 && x.r.Intn(calm) == 0:
		x.tick()
	case k == 1:
		x.bankTick(api.Node(1 + x.r.Intn(7)))
	case k == 2:
		n := api.Node(x.r.Intn(8))
		x.restore(n, x.logs[n])
	case len(x.wire) == 0:
	case k < 6:
		x.take() // lost
	default:
		x.arrive(x.take())
	}
	x.check()
}

// check asks for all that must hold at every time.
func (x *network) check() {
	x.t.Helper()
	for n := api.Node(1); n <= 7; n++ {
		sum := int64(0)
		for a := range api.Account(accounts) {
			f, e := x.banks[n].Funds(a)
			if e != api.OK || f.Held > f.Balance {
				x.t.Fatalf("bank %d, account %d: %+v, %d", n, a, f, e)
			}
			sum += int64(f.Balance)
		}
		if sum != x.opened[n] {
			x.t.Fatalf("bank %d: all balances together are %d, opened %d", n, sum, x.opened[n])
		}
	}
	for _, p := range x.paid {
		done, not := false, false
		for i, l := range p.Legs {
			s, _ := x.banks[l.Bank].Leg(p.ID, uint8(i))
			done = done || s == api.Executed
			not = not || s == api.Denied || s == api.Released
		}
		if done && not {
			x.t.Fatalf("payment %+v was carried out here and not there", p)
		}
	}
}

// settle lets every frame arrive from now on, round by round, each with a tick of every node.
func (x *network) settle(rounds int) {
	x.t.Helper()
	x.fallible = false
	for range rounds {
		x.tick()
		for n := api.Node(1); n <= 7; n++ {
			x.bankTick(n)
		}
		under := x.wire
		x.wire = nil
		for _, frame := range under {
			x.arrive(frame)
			x.check()
		}
	}
}

// settled asks that each payment is decided and all its legs are done, at the notary and at the banks. It gives how
// many were carried out.
func (x *network) settled() int {
	x.t.Helper()
	accepted := 0
	for _, p := range x.paid {
		s, e := x.deed.Status(p.ID)
		if e != api.OK || s.State == api.Pending || s.Done != 1<<len(p.Legs)-1 {
			x.t.Fatalf("%+v: %+v, %d", p, s, e)
		}
		want := api.Released
		if s.State == api.Accepted {
			want = api.Executed
			accepted++
		}
		for i, l := range p.Legs {
			stands(x.t, x.banks[l.Bank], p.ID, uint8(i), want)
		}
	}
	for n := 1; n <= 7; n++ {
		for a := range api.Account(accounts) {
			if f, _ := x.banks[n].Funds(a); f.Held != 0 || f.Due != 0 {
				x.t.Fatalf("bank %d, account %d: %+v", n, a, f)
			}
		}
	}
	return accepted
}

// drawn is a payment; some of them name an account that is not there, some ask for too much.
func (x *network) drawn(id api.ID, banks, legs int) api.Payment {
	p := api.Payment{ID: id, Deadline: x.deed.Clock() + 1 + uint64(x.r.Intn(30))}
	if x.r.Intn(4) == 0 {
		p.Deadline = 1<<64 - 1
	}
	for range legs {
		l := api.Leg{Bank: api.Node(1 + x.r.Intn(banks)), Pay: api.Account(x.r.Intn(accounts)), Get: api.Account(x.r.Intn(accounts)), Amount: api.Amount(1 + x.r.Intn(60))}
		switch x.r.Intn(30) {
		case 0:
			l.Pay = accounts
		case 1:
			l.Get = accounts
		case 2:
			l.Amount = api.MaxAmount
		}
		p.Legs = append(p.Legs, l)
	}
	return p
}

// Frames are lost, doubled, held back and turned round, and nodes fall over and are restored: at every time all of
// P13 holds, and when all goes well from some time on, few rounds settle everything.
func TestP13Network(t *testing.T) {
	accepted, rejected := 0, 0
	for seed := range int64(120) {
		r := rand.New(rand.NewSource(seed))
		x := newNetwork(t, r)
		banks, calm := 1+r.Intn(7), 1+r.Intn(10)
		for range 1500 {
			if len(x.paid) < 32 && r.Intn(20) == 0 {
				x.submit(x.drawn(api.ID(len(x.paid)), banks, 1+r.Intn(4)))
			}
			x.happen(calm)
		}
		x.settle(5)
		n := x.settled()
		accepted, rejected = accepted+n, rejected+len(x.paid)-n
	}
	if accepted < 500 || rejected < 500 {
		t.Errorf("%d payments were carried out, %d not: the test asks for too little", accepted, rejected)
	}
}

// All that a notary can keep, all at one bank, which must have room for each leg; and nothing but the ticks gets
// anything on.
func TestP13AllAtOneBank(t *testing.T) {
	for seed := range int64(10) {
		x := newNetwork(t, rand.New(rand.NewSource(seed)))
		for len(x.paid) < 32 {
			x.submit(x.drawn(api.ID(1<<32-1-len(x.paid)), 1, 4))
		}
		x.wire = nil
		x.settle(5)
		x.settled()
	}
}

// From every place at which all frames that are under way get lost, once, all is settled; also if the decision was
// made already.
func TestP13AllLostOnce(t *testing.T) {
	for lostAt := range 30 {
		x := newNetwork(t, rand.New(rand.NewSource(int64(lostAt))))
		x.fallible = false
		p := api.Payment{ID: 7, Deadline: 40, Legs: []api.Leg{{Bank: 1, Pay: 2, Get: 0, Amount: 10}, {Bank: 2, Pay: 3, Get: 1, Amount: 20}}}
		x.submit(p)
		for k := range lostAt {
			if len(x.wire) == 0 {
				x.tick()
				continue
			}
			x.arrive(x.wire[k%len(x.wire)])
			x.wire = slices.Delete(x.wire, k%len(x.wire), k%len(x.wire)+1)
		}
		x.wire = nil
		x.settle(5)
		if x.settled() != 1 {
			t.Errorf("lost at %d: not carried out", lostAt)
		}
	}
}
