package escrow_test

import (
	"fmt"
	"math/rand"
	"slices"
	"strings"
	"testing"
	"unsafe"

	"escrow/api"
	"escrow/escrow"
)

// desk is a notary under test, with the payments that it must keep.
type desk struct {
	t    *testing.T
	d    *escrow.Deed
	kept []api.Payment
}

func newDesk(t *testing.T) *desk {
	t.Helper()
	d := escrow.NewDeed()
	if d == nil {
		t.Fatal("NewDeed() = nil")
	}
	return &desk{t: t, d: d}
}

// seven is the document's payment (examples 8 and 9).
func seven() api.Payment {
	return api.Payment{ID: 7, Deadline: 2, Memo: "é", Legs: []api.Leg{
		{Bank: 1, Pay: 5, Get: 6, Amount: 10}, {Bank: 2, Pay: 8, Get: 9, Amount: 20}}}
}

// paying is a payment with a leg at each of these banks, no two of them alike.
func paying(id api.ID, deadline uint64, banks ...api.Node) api.Payment {
	p := api.Payment{ID: id, Deadline: deadline, Memo: fmt.Sprint("no. ", id)}
	for i, bank := range banks {
		n := uint32(id)*4 + uint32(i)
		p.Legs = append(p.Legs, api.Leg{Bank: bank, Pay: api.Account(n), Get: api.Account(n + 1), Amount: api.Amount(n%1000 + 1)})
	}
	return p
}

// sent are the frames of a kind for some legs of a payment.
func sent(p api.Payment, k api.Kind, legs ...int) []string {
	out := []string{}
	for _, i := range legs {
		l := p.Legs[i]
		m := api.Msg{Kind: k, To: l.Bank, ID: p.ID, Leg: uint8(i)}
		if k == api.Prepare {
			m.Pay, m.Get, m.Amount, m.Memo = l.Pay, l.Get, l.Amount, p.Memo
		}
		out = append(out, spelled(m))
	}
	return out
}

// word is what the bank of a leg says of it.
func word(p api.Payment, k api.Kind, leg int) api.Msg {
	return api.Msg{Kind: k, From: p.Legs[leg].Bank, ID: p.ID, Leg: uint8(leg)}
}

func (d *desk) submit(p api.Payment, want []string) {
	d.t.Helper()
	out, _, e := d.d.Submit(p)
	if e != api.OK || !slices.Equal(out, want) {
		d.t.Fatalf("Submit(%+v) = %x, %d, want %x", p, out, e, want)
	}
	if !slices.ContainsFunc(d.kept, func(k api.Payment) bool { return k.ID == p.ID }) {
		d.kept = append(d.kept, p)
	}
}

// takeIn submits a payment that the notary does not keep yet.
func (d *desk) takeIn(p api.Payment) {
	d.t.Helper()
	d.submit(p, sent(p, api.Prepare, []int{0, 1, 2, 3}[:len(p.Legs)]...))
	d.stands(p.ID, api.Pending, 0, 0)
}

func (d *desk) hear(m api.Msg, want ...string) {
	d.t.Helper()
	out, _, e := d.d.Handle(spelled(m))
	if e != api.OK || !slices.Equal(out, want) {
		d.t.Fatalf("Handle(%+v) = %x, %d, want %x", m, out, e, want)
	}
}

func (d *desk) tick(want ...string) {
	d.t.Helper()
	before := d.d.Clock()
	out, _, e := d.d.Tick()
	if e != api.OK || !slices.Equal(out, want) {
		d.t.Fatalf("Tick() at %d = %x, %d, want %x", before, out, e, want)
	}
	if after := d.d.Clock(); after != before+1 {
		d.t.Fatalf("Clock() = %d behind a tick at %d", after, before)
	}
}

func (d *desk) stands(id api.ID, state api.State, held, done uint8) {
	d.t.Helper()
	want := api.Status{State: state, Held: held, Done: done}
	if s, e := d.d.Status(id); s != want || e != api.OK {
		d.t.Fatalf("Status(%d) = %+v, %d, want %+v", id, s, e, want)
	}
}

func (d *desk) isUnknown(id api.ID) {
	d.t.Helper()
	if s, e := d.d.Status(id); s != (api.Status{}) || e != api.ErrUnknown {
		d.t.Fatalf("Status(%d) = %+v, %d, want ErrUnknown", id, s, e)
	}
}

// sight is all that can be seen of the notary without changing it: of each payment that it keeps how it stands, and,
// since it is taken once more, that it is kept in every field, and what it reminds.
func (d *desk) sight() string {
	s := fmt.Sprintf("clock %d\n", d.d.Clock())
	for id := api.ID(0); id < 300; id++ {
		if x, e := d.d.Status(id); e == api.OK {
			s += fmt.Sprintf("%d: %v\n", id, x)
		}
	}
	for _, p := range d.kept {
		x, e := d.d.Status(p.ID)
		out, _, again := d.d.Submit(p)
		s += fmt.Sprintf("%d: %v %d, %x %d\n", p.ID, x, e, out, again)
	}
	return s
}

// unchanged asks that what was seen before is seen still.
func (d *desk) unchanged(before, call string) {
	d.t.Helper()
	if after := d.sight(); after != before {
		d.t.Fatalf("%s changed the notary:\n%s\nwas\n%s", call, after, before)
	}
}

// refuse hands a payment in that must come to an error, with nothing beside it and nothing changed.
func (d *desk) refuse(p api.Payment, want api.Errno) {
	d.t.Helper()
	before := d.sight()
	if out, log, e := d.d.Submit(p); e != want || len(out) != 0 || log != "" {
		d.t.Fatalf("Submit(%.300q) = %x, %x, %d, want %d", fmt.Sprint(p), out, log, e, want)
	}
	d.unchanged(before, "Submit")
}

// refuseFrame is refuse of bytes, refuseWord of a message.
func (d *desk) refuseFrame(frame string, want api.Errno) {
	d.t.Helper()
	before := d.sight()
	if out, log, e := d.d.Handle(frame); e != want || len(out) != 0 || log != "" {
		d.t.Fatalf("Handle(%.300x) = %x, %x, %d, want %d", frame, out, log, e, want)
	}
	d.unchanged(before, "Handle")
}

func (d *desk) refuseWord(m api.Msg, want api.Errno) {
	d.t.Helper()
	d.refuseFrame(spelled(m), want)
}

func TestP9NewDeed(t *testing.T) {
	d := newDesk(t)
	if c := d.d.Clock(); c != 0 {
		t.Errorf("Clock() = %d", c)
	}
	for _, id := range []api.ID{0, 1, 7, 1 << 31, 1<<32 - 1} {
		d.isUnknown(id)
	}
	d.refuseWord(word(seven(), api.Prepared, 0), api.ErrUnknown)
	d.tick()
}

func TestP9Example8(t *testing.T) {
	d, p := newDesk(t), seven()
	d.submit(p, sent(p, api.Prepare, 0, 1))
	d.hear(word(p, api.Prepared, 0))
	d.stands(7, api.Pending, 1, 0)
	d.tick(sent(p, api.Prepare, 1)...)
	d.hear(word(p, api.Prepared, 1), sent(p, api.Execute, 0, 1)...)
	d.stands(7, api.Accepted, 3, 0)
	d.tick(sent(p, api.Execute, 0, 1)...)
	d.hear(word(p, api.Done, 0))
	d.tick(sent(p, api.Execute, 1)...)
	d.refuseWord(api.Msg{Kind: api.Prepared, From: 2, ID: 7, Leg: 0}, api.ErrUnknown)
}

func TestP9Example9(t *testing.T) {
	d, p := newDesk(t), seven()
	d.submit(p, sent(p, api.Prepare, 0, 1))
	d.hear(word(p, api.Prepared, 0))
	d.tick(sent(p, api.Prepare, 1)...)
	d.stands(7, api.Pending, 1, 0)
	d.tick(sent(p, api.Reject, 0, 1)...)
	d.stands(7, api.Rejected, 1, 0)
	d.hear(word(p, api.Prepared, 1), sent(p, api.Reject, 1)...)
	d.stands(7, api.Rejected, 1, 0)
}

// Payments of every number of legs, at every bank, with the least and the greatest of all that may stand in them.
func TestP9Submit(t *testing.T) {
	d := newDesk(t)
	d.takeIn(paying(0, 1, 7))
	d.takeIn(paying(1<<32-1, 1<<64-1, 1, 2, 3, 4))
	d.takeIn(paying(20, 1<<32, 5, 6, 7))
	d.takeIn(paying(256, 9, 4, 4, 4, 4))
	edges := paying(3, 1, 7, 1)
	edges.Legs[0] = api.Leg{Bank: 7, Pay: 65535, Get: 0, Amount: api.MaxAmount}
	edges.Legs[1] = api.Leg{Bank: 1, Pay: 0, Get: 0, Amount: 1}
	for i, memo := range []string{"", "\x00", strings.Repeat("\U0010FFFF", 16), "sixteen letters."} {
		edges.ID, edges.Memo = api.ID(100+i), memo
		d.takeIn(edges)
	}
	d.isUnknown(3)
}

// submitFault is what the document says of a payment, whatever the notary keeps.
func submitFault(p api.Payment) api.Errno {
	if n := len(p.Legs); n < 1 || n > 4 {
		return api.ErrLeg
	}
	for i, l := range p.Legs {
		m := api.Msg{Kind: api.Prepare, To: l.Bank, Leg: uint8(i), Amount: l.Amount}
		if e := wanted(m); e != api.OK {
			return e
		}
	}
	return wanted(api.Msg{Kind: api.Prepare, To: 1, Amount: 1, Memo: p.Memo})
}

// All that can be wrong with a payment meets all else that can be: the one named first must answer. Each comes to a
// notary that keeps nothing, one that keeps another payment of this number, and one that is full.
func TestP9FirstErrorNamed(t *testing.T) {
	lists := [][]api.Leg{nil, {}, make([]api.Leg, 5), make([]api.Leg, 300), slices.Repeat([]api.Leg{{Bank: 1, Amount: 1}}, 5)}
	kinds := []api.Leg{{Bank: 0, Amount: 1}, {Bank: 8, Amount: 1}, {Bank: 255, Amount: 1},
		{Bank: 0}, {Bank: 8}, {Bank: 1}, {Bank: 7, Amount: 1}}
	for _, a := range kinds {
		lists = append(lists, []api.Leg{a})
		for _, b := range kinds {
			lists = append(lists, []api.Leg{a, b}, []api.Leg{{Bank: 1, Amount: 1}, {Bank: 1, Amount: 1}, a, b})
		}
	}
	free, keeps, full := newDesk(t), newDesk(t), newDesk(t)
	keeps.takeIn(seven())
	for id := api.ID(100); id < 132; id++ {
		full.takeIn(paying(id, 100, 1))
	}
	free.tick()
	for _, legs := range lists {
		for _, memo := range []string{"é", "\xff", "\xc0\x80", "\xed\xa0\x80", "seventeen letters", strings.Repeat("a", 1<<16)} {
			for _, deadline := range []uint64{0, 1} {
				p := api.Payment{ID: 7, Deadline: deadline, Memo: memo, Legs: legs}
				want := submitFault(p)
				free.refuse(p, first(want, api.ErrDeadline))
				keeps.refuse(p, first(want, api.ErrConflict))
				if deadline == 0 {
					full.refuse(p, first(want, api.ErrDeadline))
				} else {
					full.refuse(p, first(want, api.ErrFull))
				}
			}
		}
	}
	free.isUnknown(7)
}

func first(errors ...api.Errno) api.Errno {
	for _, e := range errors {
		if e != api.OK {
			return e
		}
	}
	return api.OK
}

// way is how a notary that keeps the document's payment came to stand, how that is, and what it then reminds.
type way struct {
	name       string
	come       func(*desk, api.Payment)
	state      api.State
	held, done uint8
	kind       api.Kind
	legs       []int
}

// ways leads to every state of a payment of two legs. The deadline is 2.
func ways() []way {
	say := func(k api.Kind, leg int) func(*desk, api.Payment) {
		return func(d *desk, p api.Payment) { d.d.Handle(spelled(word(p, k, leg))) }
	}
	late := func(d *desk, p api.Payment) { d.d.Tick(); d.d.Tick() }
	then := func(steps ...func(*desk, api.Payment)) func(*desk, api.Payment) {
		return func(d *desk, p api.Payment) {
			for _, s := range steps {
				s(d, p)
			}
		}
	}
	accept := then(say(api.Prepared, 1), say(api.Prepared, 0))
	return []way{
		{"pending", then(), api.Pending, 0, 0, api.Prepare, []int{0, 1}},
		{"leg 0 held", say(api.Prepared, 0), api.Pending, 1, 0, api.Prepare, []int{1}},
		{"leg 1 held", say(api.Prepared, 1), api.Pending, 2, 0, api.Prepare, []int{0}},
		{"accepted", accept, api.Accepted, 3, 0, api.Execute, []int{0, 1}},
		{"accepted, late", then(accept, late), api.Accepted, 3, 0, api.Execute, []int{0, 1}},
		{"accepted, leg 0 done", then(accept, say(api.Done, 0)), api.Accepted, 3, 1, api.Execute, []int{1}},
		{"accepted, leg 1 done", then(accept, say(api.Done, 1)), api.Accepted, 3, 2, api.Execute, []int{0}},
		{"accepted, done", then(accept, say(api.Done, 1), say(api.Done, 0)), api.Accepted, 3, 3, api.Execute, nil},
		{"refused", say(api.Refused, 0), api.Rejected, 0, 0, api.Reject, []int{0, 1}},
		{"refused, leg 1 held", then(say(api.Prepared, 1), say(api.Refused, 0)), api.Rejected, 2, 0, api.Reject, []int{0, 1}},
		{"leg 0 held, then refused", then(say(api.Prepared, 0), say(api.Refused, 0)), api.Rejected, 1, 0, api.Reject, []int{0, 1}},
		{"late", late, api.Rejected, 0, 0, api.Reject, []int{0, 1}},
		{"late, leg 0 held", then(say(api.Prepared, 0), late), api.Rejected, 1, 0, api.Reject, []int{0, 1}},
		{"late, leg 0 done", then(late, say(api.Done, 0)), api.Rejected, 0, 1, api.Reject, []int{1}},
		{"late, leg 1 done", then(late, say(api.Done, 1)), api.Rejected, 0, 2, api.Reject, []int{0}},
		{"late, done", then(late, say(api.Done, 0), say(api.Done, 1)), api.Rejected, 0, 3, api.Reject, nil},
	}
}

// arrived is a notary that has gone this way.
func arrived(t *testing.T, w way) *desk {
	t.Helper()
	d, p := newDesk(t), seven()
	d.takeIn(p)
	w.come(d, p)
	d.stands(7, w.state, w.held, w.done)
	return d
}

// The same payment again is told what it reminds, and changes nothing, in whatever state and however late.
func TestP9SameAgain(t *testing.T) {
	for _, w := range ways() {
		t.Run(w.name, func(t *testing.T) {
			d, other, p := arrived(t, w), arrived(t, w), seven()
			for range 2 {
				d.submit(p, sent(p, w.kind, w.legs...))
				d.stands(7, w.state, w.held, w.done)
			}
			// What comes next is as of a notary that was not asked again.
			a, _, wrong := d.d.Tick()
			b, _, want := other.d.Tick()
			if !slices.Equal(a, b) || wrong != want || d.d.Clock() != other.d.Clock() {
				t.Errorf("Tick() = %x, %d, want %x, %d", a, wrong, b, want)
			}
			if x, y := d.sight(), other.sight(); x != y {
				t.Errorf("%s\nwant %s", x, y)
			}
		})
	}
}

// others are payments of the document's number that differ in one thing each.
func others() []api.Payment {
	all := []api.Payment{}
	for _, turn := range []func(*api.Payment){
		func(p *api.Payment) { p.Deadline = 1 },
		func(p *api.Payment) { p.Deadline = 3 },
		func(p *api.Payment) { p.Deadline = 0 },
		func(p *api.Payment) { p.Deadline = 1<<32 + 2 },
		func(p *api.Payment) { p.Memo = "" },
		func(p *api.Payment) { p.Memo = "e" },
		func(p *api.Payment) { p.Memo = "ê" },
		func(p *api.Payment) { p.Memo = "éé" },
		func(p *api.Payment) { p.Legs = p.Legs[:1] },
		func(p *api.Payment) { p.Legs = p.Legs[1:] },
		func(p *api.Payment) { p.Legs = append(p.Legs, p.Legs[1]) },
		func(p *api.Payment) { p.Legs[0], p.Legs[1] = p.Legs[1], p.Legs[0] },
	} {
		p := seven()
		turn(&p)
		all = append(all, p)
	}
	for leg := range 2 {
		for _, turn := range []func(*api.Leg){
			func(l *api.Leg) { l.Bank = 3 },
			func(l *api.Leg) { l.Pay++ },
			func(l *api.Leg) { l.Get-- },
			func(l *api.Leg) { l.Amount++ },
			func(l *api.Leg) { l.Pay, l.Get = l.Get, l.Pay },
		} {
			p := seven()
			turn(&p.Legs[leg])
			all = append(all, p)
		}
	}
	return all
}

func TestP9Conflict(t *testing.T) {
	for _, w := range ways() {
		d := arrived(t, w)
		for _, p := range others() {
			d.refuse(p, api.ErrConflict)
		}
		d.stands(7, w.state, w.held, w.done)
	}
}

func TestP9Deadline(t *testing.T) {
	d := newDesk(t)
	d.refuse(paying(1, 0, 1), api.ErrDeadline)
	d.isUnknown(1)
	d.takeIn(paying(2, 1, 1))
	d.hear(word(paying(2, 1, 1), api.Refused, 0), sent(paying(2, 1, 1), api.Reject, 0)...)
	d.hear(word(paying(2, 1, 1), api.Done, 0))
	for range 255 {
		d.tick()
	}
	for _, deadline := range []uint64{0, 1, 254, 255} {
		d.refuse(paying(3, deadline, 1), api.ErrDeadline)
	}
	for i, deadline := range []uint64{256, 257, 1 << 32, api.MaxClock, api.MaxClock + 1, 1 << 63, 1<<64 - 1} {
		d.takeIn(paying(api.ID(10+i), deadline, 1))
	}
}

// 32 payments, however they stand: none is ever let go of.
func TestP9Full(t *testing.T) {
	d := newDesk(t)
	for id := api.ID(32); id > 0; id-- {
		d.takeIn(paying(id, 2, 1))
	}
	extra := paying(40, 2, 1)
	d.refuse(extra, api.ErrFull)
	extra.Deadline = 0
	d.refuse(extra, api.ErrDeadline)
	extra.ID = 32
	d.refuse(extra, api.ErrConflict)
	d.submit(paying(32, 2, 1), sent(paying(32, 2, 1), api.Prepare, 0))
	for id := api.ID(1); id <= 32; id++ {
		p := paying(id, 2, 1)
		if id%2 == 0 {
			d.hear(word(p, api.Prepared, 0), sent(p, api.Execute, 0)...)
		} else {
			d.hear(word(p, api.Refused, 0), sent(p, api.Reject, 0)...)
		}
		d.hear(word(p, api.Done, 0))
	}
	d.refuse(paying(40, 2, 1), api.ErrFull)
	d.tick()
	d.refuse(paying(40, 2, 1), api.ErrFull)
	d.tick()
	d.refuse(paying(40, 2, 1), api.ErrDeadline)
	d.refuse(paying(40, 3, 1), api.ErrFull)
	for id := api.ID(1); id <= 32; id++ {
		d.stands(id, api.State(3-(id+1)%2), uint8((id+1)%2), 1)
	}
	d.isUnknown(40)
}

func TestP9StatusByNumber(t *testing.T) {
	d := newDesk(t)
	d.takeIn(paying(7, 5, 1, 2))
	d.takeIn(paying(7+1<<16, 5, 1, 2))
	d.hear(word(paying(7, 5, 1, 2), api.Prepared, 1))
	d.hear(word(paying(7+1<<16, 5, 1, 2), api.Refused, 0), sent(paying(7+1<<16, 5, 1, 2), api.Reject, 0, 1)...)
	d.stands(7, api.Pending, 2, 0)
	d.stands(7+1<<16, api.Rejected, 0, 0)
	for _, id := range []api.ID{0, 6, 8, 7 + 1<<8, 7 + 1<<24, 7 + 1<<31, 1<<32 - 1} {
		d.isUnknown(id)
	}
}

// Each state of a payment meets each message on each of its legs.
func TestP10EveryStateEveryMessage(t *testing.T) {
	for _, w := range ways() {
		for _, kind := range []api.Kind{api.Prepared, api.Refused, api.Done} {
			for leg := range 2 {
				t.Run(fmt.Sprintf("%s, kind %d, leg %d", w.name, kind, leg), func(t *testing.T) {
					meet(t, w, kind, leg)
				})
			}
		}
	}
}

func meet(t *testing.T, w way, kind api.Kind, leg int) {
	t.Helper()
	d, p := arrived(t, w), seven()
	m, bit := word(p, kind, leg), uint8(1<<leg)
	pending := w.state == api.Pending
	switch {
	case kind == api.Prepared && pending && w.held|bit == 3:
		d.hear(m, sent(p, api.Execute, 0, 1)...)
		d.stands(7, api.Accepted, 3, 0)
	case kind == api.Prepared && pending:
		d.hear(m)
		d.stands(7, api.Pending, w.held|bit, 0)
	case kind == api.Prepared:
		d.hear(m, sent(p, w.kind, leg)...)
		d.stands(7, w.state, w.held, w.done)
	case kind == api.Refused && w.state == api.Accepted:
		d.refuseWord(m, api.ErrState)
	case kind == api.Refused && pending:
		d.hear(m, sent(p, api.Reject, 0, 1)...)
		d.stands(7, api.Rejected, w.held, 0)
	case kind == api.Refused:
		d.hear(m, sent(p, api.Reject, leg)...)
		d.stands(7, api.Rejected, w.held, w.done)
	case pending:
		d.refuseWord(m, api.ErrState)
	default:
		d.hear(m)
		d.stands(7, w.state, w.held, w.done|bit)
	}
}

// The last leg that is held decides, whichever it is and however many there are; the decision is sent by rising number.
func TestP10AllHeld(t *testing.T) {
	r := rand.New(rand.NewSource(10))
	for n := 1; n <= 4; n++ {
		all := []int{0, 1, 2, 3}[:n]
		for range 60 {
			d := newDesk(t)
			banks := []api.Node{}
			for range n {
				banks = append(banks, api.Node(1+r.Intn(7)))
			}
			p := paying(258, 9, banks...)
			d.takeIn(p)
			held := uint8(0)
			for i, leg := range r.Perm(n) {
				held |= 1 << leg
				if i == n-1 {
					d.hear(word(p, api.Prepared, leg), sent(p, api.Execute, all...)...)
					break
				}
				d.hear(word(p, api.Prepared, leg))
				d.hear(word(p, api.Prepared, leg))
				d.stands(258, api.Pending, held, 0)
			}
			d.stands(258, api.Accepted, 1<<n-1, 0)
			done := uint8(0)
			for _, leg := range r.Perm(n) {
				done |= 1 << leg
				d.hear(word(p, api.Done, leg))
				d.stands(258, api.Accepted, 1<<n-1, done)
			}
		}
	}
}

func TestP10RefusedByAny(t *testing.T) {
	for leg := range 4 {
		d, p := newDesk(t), paying(1<<32-1, 9, 3, 1, 3, 7)
		d.takeIn(p)
		for other := range 4 {
			if other != leg {
				d.hear(word(p, api.Prepared, other))
			}
		}
		d.hear(word(p, api.Refused, leg), sent(p, api.Reject, 0, 1, 2, 3)...)
		d.stands(p.ID, api.Rejected, 15&^(1<<leg), 0)
		d.hear(word(p, api.Prepared, leg), sent(p, api.Reject, leg)...)
		d.stands(p.ID, api.Rejected, 15&^(1<<leg), 0)
	}
}

// No such payment, no such leg, not its bank: all ahead of what its state says.
func TestP10Unknown(t *testing.T) {
	for _, w := range ways() {
		d := arrived(t, w)
		for _, k := range []api.Kind{api.Prepared, api.Refused, api.Done} {
			for leg := uint8(0); leg < 4; leg++ {
				for bank := api.Node(1); bank <= 7; bank++ {
					if leg < 2 && bank == api.Node(leg)+1 {
						continue
					}
					d.refuseWord(api.Msg{Kind: k, From: bank, ID: 7, Leg: leg}, api.ErrUnknown)
				}
			}
			for _, id := range []api.ID{0, 6, 8, 7 << 8, 7 + 1<<16, 1<<32 - 1} {
				d.refuseWord(api.Msg{Kind: k, From: 1, ID: id, Leg: 0}, api.ErrUnknown)
			}
		}
	}
}

// A message to a bank is not the notary's, whatever it says; and the error of Decode comes ahead of all.
func TestP10WrongFrames(t *testing.T) {
	d, p := newDesk(t), seven()
	d.takeIn(p)
	for _, id := range []api.ID{7, 8} {
		for bank := api.Node(1); bank <= 7; bank++ {
			for _, k := range []api.Kind{api.Prepare, api.Execute, api.Reject} {
				m := api.Msg{Kind: k, To: bank, ID: id}
				if k == api.Prepare {
					m.Amount = 1
				}
				d.refuseWord(m, api.ErrNode)
			}
		}
	}
	good := spelled(word(p, api.Prepared, 0))
	for _, s := range []string{"", "E", good[:21], good + "\x00", "F" + good[1:], strings.Repeat("E", 1<<16)} {
		d.refuseFrame(s, api.ErrFrame)
	}
	d.refuseFrame(good[:21]+string([]byte{good[21] ^ 1}), api.ErrSum)
	d.refuseWord(api.Msg{Kind: 7, From: 1, ID: 7}, api.ErrKind)
	d.refuseWord(api.Msg{Kind: api.Prepared, From: 1, ID: 7, Amount: 10}, api.ErrKind)
	d.refuseWord(api.Msg{Kind: api.Prepared, From: 8, ID: 7}, api.ErrNode)
	d.refuseWord(api.Msg{Kind: api.Prepared, From: 0, ID: 7}, api.ErrNode)
	d.refuseWord(api.Msg{Kind: api.Prepared, From: 1, ID: 9, Leg: 4}, api.ErrLeg)
	d.refuseWord(api.Msg{Kind: api.Prepare, To: 1, ID: 9}, api.ErrAmount)
	d.refuseWord(api.Msg{Kind: api.Prepare, To: 1, ID: 9, Amount: 1, Memo: "\xff"}, api.ErrMemo)
	d.hear(word(p, api.Prepared, 0))
}

// What each state reminds is sent by a tick too. Behind its deadline a payment that was Pending is Rejected.
func TestP11EveryState(t *testing.T) {
	for _, w := range ways() {
		t.Run(w.name, func(t *testing.T) {
			d, p := arrived(t, w), seven()
			want := sent(p, w.kind, w.legs...)
			d.tick(want...)
			d.stands(7, w.state, w.held, w.done)
			if w.state != api.Pending {
				d.tick(want...)
				d.stands(7, w.state, w.held, w.done)
				return
			}
			d.tick(sent(p, api.Reject, 0, 1)...)
			d.stands(7, api.Rejected, w.held, w.done)
		})
	}
}

// By rising payment, whatever order they came in, and by rising legs; each by its own state and deadline.
func TestP11Order(t *testing.T) {
	numbers := []api.ID{0, 1, 2, 127, 128, 255, 256, 65535, 65536, 1 << 24, 1<<31 - 1, 1 << 31, 1<<32 - 2, 1<<32 - 1}
	r := rand.New(rand.NewSource(12))
	for range 50 {
		d := newDesk(t)
		for _, i := range r.Perm(len(numbers)) {
			d.takeIn(paying(numbers[i], uint64(1+i%3), api.Node(1+i%7), 2, 7))
		}
		for clock := uint64(1); clock < 5; clock++ {
			want := []string{}
			for i, id := range numbers {
				p := paying(id, uint64(1+i%3), api.Node(1+i%7), 2, 7)
				k := api.Prepare
				if p.Deadline <= clock {
					k = api.Reject
				}
				want = append(want, sent(p, k, 0, 1, 2)...)
			}
			d.tick(want...)
		}
	}
}

// All that can be kept reminds at once.
func TestP11AllAtOnce(t *testing.T) {
	d, want := newDesk(t), []string{}
	for id := api.ID(0); id < 32; id++ {
		p := paying(id*3, 1<<64-1, 1, 2, 3, 4)
		d.takeIn(p)
		want = append(want, sent(p, api.Prepare, 0, 1, 2, 3)...)
	}
	d.tick(want...)
	d.tick(want...)
}

// A payment is in time up to the tick that brings the clock to its deadline.
func TestP11Deadline(t *testing.T) {
	for _, deadline := range []uint64{1, 2, 3, 10, 300} {
		d, p := newDesk(t), paying(7, deadline, 5)
		d.takeIn(p)
		for range deadline - 1 {
			d.tick(sent(p, api.Prepare, 0)...)
		}
		d.stands(7, api.Pending, 0, 0)
		d.tick(sent(p, api.Reject, 0)...)
		d.stands(7, api.Rejected, 0, 0)
		d.hear(word(p, api.Done, 0))
		d.tick()
	}
	d, p := newDesk(t), paying(7, 10, 5)
	d.takeIn(p)
	for range 9 {
		d.tick(sent(p, api.Prepare, 0)...)
	}
	d.hear(word(p, api.Prepared, 0), sent(p, api.Execute, 0)...)
	d.tick(sent(p, api.Execute, 0)...)
	d.stands(7, api.Accepted, 1, 0)
}

// At its end the clock stands: nothing is late any more and nothing reminds, but all else goes on.
func TestP11ClockEnds(t *testing.T) {
	d := newDesk(t)
	for range api.MaxClock - 2 {
		if out, _, e := d.d.Tick(); len(out) != 0 || e != api.OK {
			t.Fatalf("Tick() = %x, %d at %d", out, e, d.d.Clock())
		}
	}
	last, beyond, never := paying(1, api.MaxClock, 1), paying(2, api.MaxClock+1, 1, 2), paying(3, 1<<64-1, 3)
	for _, p := range []api.Payment{last, beyond, never} {
		d.takeIn(p)
	}
	d.refuse(paying(4, api.MaxClock-2, 1), api.ErrDeadline)
	d.tick(slices.Concat(sent(last, api.Prepare, 0), sent(beyond, api.Prepare, 0, 1), sent(never, api.Prepare, 0))...)
	d.tick(slices.Concat(sent(last, api.Reject, 0), sent(beyond, api.Prepare, 0, 1), sent(never, api.Prepare, 0))...)
	before := d.sight()
	for range 3 {
		if out, log, e := d.d.Tick(); len(out) != 0 || log != "" || e != api.ErrTime {
			t.Fatalf("Tick() = %x, %x, %d, want ErrTime", out, log, e)
		}
		d.unchanged(before, "Tick")
	}
	if c := d.d.Clock(); c != 1000000 {
		t.Errorf("Clock() = %d", c)
	}
	d.stands(1, api.Rejected, 0, 0)
	d.stands(2, api.Pending, 0, 0)
	d.refuse(paying(4, api.MaxClock, 1), api.ErrDeadline)
	d.takeIn(paying(4, api.MaxClock+1, 1))
	d.hear(word(beyond, api.Prepared, 1))
	d.hear(word(beyond, api.Prepared, 0), sent(beyond, api.Execute, 0, 1)...)
	d.hear(word(never, api.Refused, 0), sent(never, api.Reject, 0)...)
	d.hear(word(last, api.Done, 0))
	d.submit(beyond, sent(beyond, api.Execute, 0, 1))
	d.stands(1, api.Rejected, 0, 1)
}

func TestP1DeedAnyInput(t *testing.T) {
	r := rand.New(rand.NewSource(13))
	d, p := newDesk(t), seven()
	d.takeIn(p)
	before := d.sight()
	for i := 0; i < 20000; i++ {
		s := []byte(spelled(word(p, api.Prepared, 0)))
		if i%2 == 0 {
			s[r.Intn(len(s))] ^= byte(1 + r.Intn(255))
		} else {
			s = make([]byte, r.Intn(100))
			r.Read(s)
		}
		if out, log, e := d.d.Handle(string(s)); e == api.OK || len(out) != 0 || log != "" {
			t.Fatalf("Handle(%x) = %x, %x, %d", s, out, log, e)
		}
	}
	d.unchanged(before, "a wrong frame")
	for range 20000 {
		memo := make([]byte, r.Intn(70))
		r.Read(memo)
		q := api.Payment{ID: 7, Deadline: r.Uint64(), Memo: string(memo), Legs: make([]api.Leg, r.Intn(7))}
		for i := range q.Legs {
			q.Legs[i] = api.Leg{Bank: api.Node(r.Intn(9)), Pay: api.Account(r.Uint32()), Amount: api.Amount(r.Intn(5))}
		}
		want := first(submitFault(q), api.ErrConflict)
		if out, log, e := d.d.Submit(q); e != want || len(out) != 0 || log != "" {
			t.Fatalf("Submit(%q) = %x, %x, %d, want %d", fmt.Sprint(q), out, log, e, want)
		}
	}
	d.unchanged(before, "a wrong payment")
}

func TestP2DeedsApart(t *testing.T) {
	a, b, c := newDesk(t), newDesk(t), newDesk(t)
	p, q := seven(), seven()
	q.Memo = "another"
	b.takeIn(q)
	b.hear(word(q, api.Prepared, 1))
	beforeB, beforeC := b.sight(), c.sight()
	a.takeIn(p)
	a.tick(sent(p, api.Prepare, 0, 1)...)
	a.hear(word(p, api.Refused, 1), sent(p, api.Reject, 0, 1)...)
	a.hear(word(p, api.Done, 0))
	b.unchanged(beforeB, "another notary")
	c.unchanged(beforeC, "another notary")
	c.isUnknown(7)
	beforeA := a.sight()
	b.tick(sent(q, api.Prepare, 0)...)
	b.hear(word(q, api.Prepared, 0), sent(q, api.Execute, 0, 1)...)
	a.unchanged(beforeA, "another notary")
}

// A payment whose memo and list are used for something else afterwards, and a frame too: what the notary kept of
// them must be its own, and it writes into none of them, nor into their spare room.
func TestP2DeedKeepsNothing(t *testing.T) {
	d, p := newDesk(t), seven()
	memo := []byte(p.Memo + "spare room")
	room := append(seven().Legs, api.Leg{Bank: 6, Pay: 1, Get: 2, Amount: 3}, api.Leg{Bank: 7, Pay: 4, Get: 5, Amount: 6})
	memoWas, roomWas := string(memo), slices.Clone(room)
	handed := api.Payment{ID: 7, Deadline: 2, Memo: unsafe.String(&memo[0], 2), Legs: room[:2]}
	for range 2 {
		out, _, e := d.d.Submit(handed)
		if e != api.OK || !slices.Equal(out, sent(p, api.Prepare, 0, 1)) {
			t.Fatalf("Submit = %x, %d", out, e)
		}
	}
	d.kept = append(d.kept, seven())
	out, _, _ := d.d.Submit(handed)
	frame := []byte(spelled(word(p, api.Prepared, 0)) + "spare room")
	frameWas := string(frame)
	if out, _, e := d.d.Handle(unsafe.String(&frame[0], 22)); len(out) != 0 || e != api.OK {
		t.Fatalf("Handle = %x, %d", out, e)
	}
	if string(memo) != memoWas || !slices.Equal(room, roomWas) || string(frame) != frameWas {
		t.Fatalf("written into: %q, %v, %q", memo, room, frame)
	}
	copy(memo, "????????????")
	clear(room)
	copy(frame, strings.Repeat("?", len(frame)))
	if want := sent(p, api.Prepare, 0, 1); !slices.Equal(out, want) {
		t.Errorf("what came out is now %x, want %x", out, want)
	}
	d.submit(p, sent(p, api.Prepare, 1))
	d.tick(sent(p, api.Prepare, 1)...)
	d.hear(word(p, api.Prepared, 1), sent(p, api.Execute, 0, 1)...)
	d.stands(7, api.Accepted, 3, 0)
}

// Lists that came out are written over, with their spare room; no other list and no later answer hears of it.
func TestP2DeedFreshLists(t *testing.T) {
	d, twin := newDesk(t), newDesk(t)
	p, q := paying(7, 2, 1, 2, 3), paying(8, 9, 1, 2)
	calls := []func(*escrow.Deed) []string{
		func(d *escrow.Deed) []string { out, _, _ := d.Submit(p); return out },
		func(d *escrow.Deed) []string { out, _, _ := d.Submit(p); return out },
		func(d *escrow.Deed) []string { out, _, _ := d.Submit(q); return out },
		func(d *escrow.Deed) []string { out, _, _ := d.Tick(); return out },
		func(d *escrow.Deed) []string { out, _, _ := d.Handle(spelled(word(q, api.Prepared, 0))); return out },
		func(d *escrow.Deed) []string { out, _, _ := d.Handle(spelled(word(q, api.Prepared, 1))); return out },
		func(d *escrow.Deed) []string { out, _, _ := d.Handle(spelled(word(q, api.Prepared, 1))); return out },
		func(d *escrow.Deed) []string { out, _, _ := d.Tick(); return out },
		func(d *escrow.Deed) []string { out, _, _ := d.Tick(); return out },
		func(d *escrow.Deed) []string { out, _, _ := d.Handle(spelled(word(p, api.Refused, 1))); return out },
		func(d *escrow.Deed) []string { out, _, _ := d.Submit(p); return out },
		func(d *escrow.Deed) []string { out, _, _ := d.Handle(spelled(word(p, api.Done, 1))); return out },
		func(d *escrow.Deed) []string { out, _, _ := d.Tick(); return out },
	}
	lists, wants := [][]string{}, [][]string{}
	for i, call := range calls {
		list, want := call(d.d), call(twin.d)
		if !slices.Equal(list, want) {
			t.Fatalf("call %d: %x, want %x", i, list, want)
		}
		lists, wants = append(lists, list), append(wants, slices.Clone(want))
		// Every second list is written over at once; the others must stay.
		if i%2 == 0 {
			whole := list[:cap(list)]
			for j := range whole {
				whole[j] = "x"
			}
		}
	}
	for i := range lists {
		if i%2 == 1 && !slices.Equal(lists[i], wants[i]) {
			t.Errorf("list %d is now %x, was %x", i, lists[i], wants[i])
		}
	}
}

// modelDeed is the document's notary, told in another way: maps, and lists of what is open.
type modelDeed struct {
	clock uint64
	kept  map[api.ID]*modelPayment
}

type modelPayment struct {
	p            api.Payment
	state        api.State
	unheld, open map[int]bool // legs that are not held, and that are not done
}

func legsOf(set map[int]bool) []int {
	legs := []int{}
	for leg := range 4 {
		if set[leg] {
			legs = append(legs, leg)
		}
	}
	return legs
}

func (x *modelPayment) all() []int { return []int{0, 1, 2, 3}[:len(x.p.Legs)] }

// decided are the frames of the decision for some legs.
func (x *modelPayment) decided(legs ...int) []string {
	if x.state == api.Accepted {
		return sent(x.p, api.Execute, legs...)
	}
	return sent(x.p, api.Reject, legs...)
}

func (x *modelPayment) reminds() []string {
	if x.state == api.Pending {
		return sent(x.p, api.Prepare, legsOf(x.unheld)...)
	}
	return x.decided(legsOf(x.open)...)
}

func (x *modelPayment) status() api.Status {
	s := api.Status{State: x.state}
	for _, leg := range x.all() {
		if !x.unheld[leg] {
			s.Held += 1 << leg
		}
		if !x.open[leg] {
			s.Done += 1 << leg
		}
	}
	return s
}

func (d *modelDeed) submit(p api.Payment) ([]string, api.Errno) {
	if e := submitFault(p); e != api.OK {
		return nil, e
	}
	x := d.kept[p.ID]
	switch {
	case x != nil && fmt.Sprintf("%#v", x.p) != fmt.Sprintf("%#v", p):
		return nil, api.ErrConflict
	case x != nil:
		return x.reminds(), api.OK
	case p.Deadline <= d.clock:
		return nil, api.ErrDeadline
	case len(d.kept) == 32:
		return nil, api.ErrFull
	}
	x = &modelPayment{p: p, state: api.Pending, unheld: map[int]bool{}, open: map[int]bool{}}
	for i := range p.Legs {
		x.unheld[i], x.open[i] = true, true
	}
	d.kept[p.ID] = x
	return sent(p, api.Prepare, x.all()...), api.OK
}

func (d *modelDeed) handle(m api.Msg) ([]string, api.Errno) {
	if m.To != 0 {
		return nil, api.ErrNode
	}
	x, leg := d.kept[m.ID], int(m.Leg)
	if x == nil || leg >= len(x.p.Legs) || x.p.Legs[leg].Bank != m.From {
		return nil, api.ErrUnknown
	}
	switch {
	case m.Kind == api.Refused && x.state == api.Accepted, m.Kind == api.Done && x.state == api.Pending:
		return nil, api.ErrState
	case m.Kind == api.Done:
		delete(x.open, leg)
		return nil, api.OK
	case x.state != api.Pending:
		return x.decided(leg), api.OK
	case m.Kind == api.Refused:
		x.state = api.Rejected
		return x.decided(x.all()...), api.OK
	}
	delete(x.unheld, leg)
	if len(x.unheld) > 0 {
		return nil, api.OK
	}
	x.state = api.Accepted
	return x.decided(x.all()...), api.OK
}

func (d *modelDeed) tick() []string {
	d.clock++
	ids := []api.ID{}
	for id, x := range d.kept {
		ids = append(ids, id)
		if x.state == api.Pending && x.p.Deadline <= d.clock {
			x.state = api.Rejected
		}
	}
	slices.Sort(ids)
	out := []string{}
	for _, id := range ids {
		out = append(out, d.kept[id].reminds()...)
	}
	return out
}

// Long walks of payments, ticks, and frames that come twice, late, in any order and from the wrong bank, beside
// the model.
func TestP10AsTheModel(t *testing.T) {
	for seed := range int64(80) {
		walkDeed(t, rand.New(rand.NewSource(seed)))
	}
}

func walkDeed(t *testing.T, r *rand.Rand) {
	t.Helper()
	d := newDesk(t)
	x := &modelDeed{kept: map[api.ID]*modelPayment{}}
	ids := 3 + r.Intn(60)
	for range 500 {
		switch r.Intn(8) {
		case 0:
			d.tick(x.tick()...)
		case 1, 2:
			p := somePayment(r, ids, x.clock)
			if k := x.kept[p.ID]; k != nil && r.Intn(3) > 0 {
				p = k.p
			}
			out, want := x.submit(p)
			if want == api.OK {
				d.submit(p, out)
			} else if out, log, e := d.d.Submit(p); e != want || len(out) != 0 || log != "" {
				t.Fatalf("Submit(%+v) = %x, %x, %d, want %d", p, out, log, e, want)
			}
		default:
			m := someWord(r, ids, x)
			out, want := x.handle(m)
			if want == api.OK {
				d.hear(m, out...)
			} else if out, log, e := d.d.Handle(spelled(m)); e != want || len(out) != 0 || log != "" {
				t.Fatalf("Handle(%+v) = %x, %x, %d, want %d", m, out, log, e, want)
			}
		}
		checkDeed(d, x, ids)
	}
}

func checkDeed(d *desk, x *modelDeed, ids int) {
	d.t.Helper()
	if c := d.d.Clock(); c != x.clock {
		d.t.Fatalf("Clock() = %d, want %d", c, x.clock)
	}
	for id := api.ID(0); id < api.ID(ids); id++ {
		k := x.kept[id]
		if k == nil {
			d.isUnknown(id)
			continue
		}
		s := k.status()
		d.stands(id, s.State, s.Held, s.Done)
	}
}

func somePayment(r *rand.Rand, ids int, clock uint64) api.Payment {
	p := api.Payment{ID: api.ID(r.Intn(ids)), Deadline: clock + uint64(r.Intn(12)), Memo: []string{"", "a", "é", "\xff"}[r.Intn(40)/13]}
	for range 1 + r.Intn(4) {
		p.Legs = append(p.Legs, api.Leg{Bank: api.Node(1 + r.Intn(3)), Pay: api.Account(r.Intn(3)), Get: 6, Amount: api.Amount(1 + r.Intn(2))})
	}
	switch r.Intn(30) {
	case 0:
		p.Legs = nil
	case 1:
		p.Legs = append(p.Legs, p.Legs[0], p.Legs[0], p.Legs[0], p.Legs[0])
	case 2:
		p.Legs[len(p.Legs)-1].Bank = api.Node(8 * r.Intn(2))
	case 3:
		p.Legs[len(p.Legs)-1].Amount = 0
	}
	return p
}

// someWord mostly comes from the bank that has the leg, and says Refused seldom, so that payments get on.
func someWord(r *rand.Rand, ids int, x *modelDeed) api.Msg {
	kinds := []api.Kind{4, 4, 4, 4, 4, 4, 4, 6, 6, 6, 6, 5}
	m := api.Msg{Kind: kinds[r.Intn(len(kinds))], From: api.Node(1 + r.Intn(3)), ID: api.ID(r.Intn(ids)), Leg: uint8(r.Intn(4))}
	if k := x.kept[m.ID]; k != nil && r.Intn(15) > 0 {
		m.Leg = uint8(r.Intn(len(k.p.Legs)))
		m.From = k.p.Legs[m.Leg].Bank
	}
	if r.Intn(40) == 0 {
		m.Kind, m.From, m.To = api.Execute, 0, m.From
	}
	return m
}
