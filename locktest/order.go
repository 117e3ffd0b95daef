package locktest

import (
	"slices"

	"weighlock/api"
)

// Order is, of a lock of two levels, who got a place in the queue of its node,
// and who among all nodes, ahead of its grant; who was granted the lock last, and
// how many were in a row with one Lead; and how many led, and how many came
// behind one who did.
type Order struct {
	Most    int // how many may be granted the lock in a row; 0: any number
	Longest int // how many were, at most
	p       *Pair
	queues  [api.MaxNodes][]int
	arrived []int
	last    int
	row     int
	led     int
	behind  int
}

// NewOrder is that of a lock of which nobody has called yet.
func NewOrder(p *Pair) *Order { return &Order{p: p, last: -1} }

// Takes takes what a step of a context did: who is granted the lock must be the
// first one of its node, whose turn it is among all, and nobody else has it.
func (o *Order) Takes(t int, did api.Did) {
	o.p.Helper()
	node := o.p.homes[t]
	if did.Enq {
		o.queues[node] = append(o.queues[node], t)
	}
	if did.Arrive {
		o.arrived = append(o.arrived, t)
	}
	if did.Event != api.Granted {
		return
	}
	for c := range o.p.homes {
		if c != t && o.p.Lock.State(c) == api.Holding {
			o.p.Fatalf("%d was granted the lock, %d has it", t, c)
		}
	}
	if queue := o.queues[node]; queue[0] != t {
		o.p.Fatalf("%d was granted the lock ahead of %v", t, queue)
	}
	o.queues[node] = o.queues[node][1:]
	o.turns(t, did.Lead)
	o.last = t
}

// turns asks that who leads is the first one who arrived, and that who comes
// behind didn't, and is of the node whose time it is.
func (o *Order) turns(t int, leads bool) {
	o.p.Helper()
	if leads != slices.Contains(o.arrived, t) || leads && o.arrived[0] != t {
		o.p.Fatalf("%d was granted the lock, and leads: %t; those who arrived: %v", t, leads, o.arrived)
	}
	if leads {
		o.arrived = o.arrived[1:]
		o.led++
		o.row = 0
	} else {
		o.behind++
		if o.last == -1 || o.p.homes[o.last] != o.p.homes[t] {
			o.p.Fatalf("%d was granted the lock behind %d", t, o.last)
		}
	}
	o.row++
	o.Longest = max(o.Longest, o.row)
	if o.Most > 0 && o.row > o.Most {
		o.p.Fatalf("%d was granted the lock as number %d in a row", t, o.row)
	}
}

// HadBoth asks that some led, and, if contexts share a node, that some came
// behind.
func (o *Order) HadBoth() {
	o.p.Helper()
	homes := o.p.homes
	shared := slices.Contains(homes[1:], homes[0]) && o.Most != 1
	if o.led == 0 || shared && o.behind == 0 {
		o.p.Fatalf("homes %v: %d led, %d came behind", homes, o.led, o.behind)
	}
}
