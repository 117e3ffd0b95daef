package two_test

import (
	"fmt"
	"math"
	"slices"
	"testing"

	"weighlock/locktest"
	"weighlock/trace"
	"weighlock/two"
)

func TestExampleP20_1(t *testing.T) {
	l := locktest.Read(t, "call 0, enq 0, call 1, enq 1, arrive 0, grant 0 lead, unlock 0, grant 1")
	isTrace(t, []int{0, 0}, 0, l)
	isTrace(t, []int{0, 0}, 2, l)
	checks(t, []int{0, 0}, 1, l, 7, false)
}

// situations are entries behind which the thread 1, of threads of the homes 5, 5,
// 2, 2, with the budget 2, is in each state, in all that matters of the others';
// by which of its entries fit then.
var situations = []struct {
	state  string
	fits   string
	behind []string
}{
	{"idle", "call 1", []string{
		"",
		"call 0",
		"call 0, enq 0",
		"call 2, enq 2, arrive 2",
		"call 0, enq 0, arrive 0, grant 0 lead",
		"call 2, enq 2, arrive 2, grant 2 lead, unlock 2",
		"call 1, enq 1, arrive 1, grant 1 lead, unlock 1, return 1",
		"call 1, enq 1, arrive 1, grant 1 lead, unlock 1, call 2, enq 2, arrive 2, grant 2 lead, return 1",
		"call 0, enq 0, arrive 0, grant 0 lead, call 1, enq 1, unlock 0, grant 1, unlock 1, return 1",
		"call 0, enq 0, arrive 0, grant 0 lead, call 1, enq 1, unlock 0, grant 1, unlock 1, return 0, call 0, return 1",
	}},
	{"called", "enq 1", []string{
		"call 1",
		"call 0, call 1",
		"call 0, enq 0, call 1",
		"call 1, call 0, enq 0, arrive 0",
		"call 0, enq 0, arrive 0, grant 0 lead, call 1",
		"call 0, enq 0, arrive 0, grant 0 lead, unlock 0, call 1",
		"call 1, enq 1, arrive 1, grant 1 lead, unlock 1, return 1, call 1",
		"call 2, enq 2, arrive 2, grant 2 lead, call 1",
	}},
	{"queued, the first one, and the time is nobody's", "arrive 1", []string{
		"call 1, enq 1",
		"call 0, call 1, enq 1",
		"call 1, enq 1, call 0, enq 0",
		"call 1, enq 1, call 0, enq 0, arrive 0",
		"call 2, enq 2, call 1, enq 1",
		"call 2, enq 2, arrive 2, call 1, enq 1",
	}},
	{"queued, the first one, and the time is another node's", "arrive 1", []string{
		"call 2, enq 2, arrive 2, grant 2 lead, call 1, enq 1",
		"call 2, enq 2, arrive 2, grant 2 lead, unlock 2, call 1, enq 1",
		"call 2, enq 2, arrive 2, grant 2 lead, unlock 2, return 2, call 1, enq 1",
		"call 1, enq 1, call 2, enq 2, arrive 2, grant 2 lead, unlock 2",
		"call 0, enq 0, arrive 0, grant 0 lead, unlock 0, call 2, enq 2, arrive 2, grant 2 lead, unlock 2, call 1, enq 1",
		"call 2, enq 2, arrive 2, grant 2 lead, unlock 2, call 1, enq 1, call 0, enq 0",
	}},
	{"queued, the first one, the time is its node's, but the count is the budget", "arrive 1", []string{
		"call 0, enq 0, arrive 0, grant 0 lead, unlock 0, return 0, call 0, enq 0, grant 0, unlock 0, call 1, enq 1",
		"call 0, enq 0, arrive 0, call 1, enq 1, grant 0 lead, unlock 0, grant 1, unlock 1, return 1, call 1, enq 1",
		"call 1, enq 1, arrive 1, grant 1 lead, unlock 1, return 1, call 1, enq 1, grant 1, unlock 1, return 1, call 1, enq 1",
		"call 0, enq 0, arrive 0, call 1, enq 1, grant 0 lead, unlock 0, grant 1, unlock 1, return 1, call 1, enq 1, call 2, enq 2, arrive 2",
	}},
	{"queued, the first one, the time is its node's, but somebody is holding", "arrive 1", []string{
		"call 0, enq 0, arrive 0, grant 0 lead, call 1, enq 1",
		"call 0, enq 0, call 1, enq 1, arrive 0, grant 0 lead",
	}},
	{"queued, with somebody ahead", "arrive 1", []string{
		"call 0, enq 0, call 1, enq 1",
		"call 1, call 0, enq 0, enq 1",
		"call 0, enq 0, arrive 0, call 1, enq 1",
		"call 0, enq 0, call 1, enq 1, call 2, enq 2",
		"call 1, enq 1, arrive 1, grant 1 lead, unlock 1, return 1, call 0, enq 0, call 1, enq 1",
		"call 1, enq 1, arrive 1, grant 1 lead, unlock 1, return 1, call 0, enq 0, arrive 0, call 1, enq 1",
	}},
	{"queued, the first one, and its node's time goes on", "arrive 1, grant 1", []string{
		"call 0, enq 0, arrive 0, grant 0 lead, call 1, enq 1, unlock 0",
		"call 0, enq 0, arrive 0, grant 0 lead, unlock 0, call 1, enq 1",
		"call 0, enq 0, call 1, enq 1, arrive 0, grant 0 lead, unlock 0, return 0",
		"call 0, enq 0, arrive 0, grant 0 lead, unlock 0, return 0, call 1, enq 1, call 0, enq 0",
		"call 0, enq 0, arrive 0, grant 0 lead, unlock 0, return 0, call 1, enq 1, call 0, enq 0, arrive 0",
		"call 1, enq 1, arrive 1, grant 1 lead, unlock 1, return 1, call 1, enq 1",
		"call 2, enq 2, arrive 2, call 0, enq 0, arrive 0, grant 2 lead, unlock 2, grant 0 lead, unlock 0, call 1, enq 1",
		"call 0, enq 0, arrive 0, call 2, enq 2, arrive 2, grant 0 lead, unlock 0, call 1, enq 1",
		"call 0, enq 0, arrive 0, call 1, enq 1, grant 0 lead, unlock 0, grant 1, unlock 1, call 2, enq 2, arrive 2, grant 2 lead, unlock 2, return 0, call 0, enq 0, arrive 0, grant 0 lead, unlock 0, return 1, call 1, enq 1",
	}},
	{"arrived, the first one of its node's queue and of the row", "grant 1 lead", []string{
		"call 1, enq 1, arrive 1",
		"call 1, enq 1, call 0, enq 0, arrive 1",
		"call 1, enq 1, call 2, enq 2, arrive 1, arrive 2",
		"call 2, enq 2, call 1, enq 1, arrive 1",
		"call 0, enq 0, call 1, enq 1, arrive 0, arrive 1, grant 0 lead, unlock 0",
		"call 2, enq 2, arrive 2, grant 2 lead, unlock 2, call 1, enq 1, arrive 1",
		"call 2, enq 2, arrive 2, call 1, enq 1, arrive 1, grant 2 lead, unlock 2",
		"call 0, enq 0, arrive 0, grant 0 lead, unlock 0, call 1, enq 1, arrive 1",
		"call 0, enq 0, arrive 0, call 1, enq 1, grant 0 lead, unlock 0, grant 1, unlock 1, return 1, call 1, enq 1, arrive 1",
	}},
	{"arrived, the first one of its node's queue, but not of the row", "", []string{
		"call 2, enq 2, arrive 2, call 1, enq 1, arrive 1",
		"call 1, enq 1, call 0, enq 0, arrive 0, arrive 1",
		"call 0, enq 0, arrive 0, call 2, enq 2, arrive 2, call 1, enq 1, arrive 1, grant 0 lead, unlock 0",
	}},
	{"arrived, the first one of the row, but not of its node's queue", "", []string{
		"call 0, enq 0, call 1, enq 1, arrive 1",
		"call 0, enq 0, call 1, enq 1, arrive 1, arrive 0",
		"call 0, enq 0, call 1, enq 1, arrive 1, call 2, enq 2, arrive 2",
		"call 1, enq 1, arrive 1, grant 1 lead, unlock 1, return 1, call 0, enq 0, call 1, enq 1, arrive 1",
	}},
	{"arrived, the first one of neither", "", []string{
		"call 0, enq 0, arrive 0, call 1, enq 1, arrive 1",
		"call 2, enq 2, arrive 2, call 0, enq 0, call 1, enq 1, arrive 1",
	}},
	{"arrived, the first one of both, but somebody is holding", "", []string{
		"call 0, enq 0, arrive 0, grant 0 lead, call 1, enq 1, arrive 1",
		"call 0, enq 0, call 1, enq 1, arrive 0, arrive 1, grant 0 lead",
		"call 2, enq 2, arrive 2, grant 2 lead, call 1, enq 1, arrive 1",
		"call 2, enq 2, arrive 2, call 1, enq 1, arrive 1, grant 2 lead",
	}},
	{"holding", "unlock 1", []string{
		"call 1, enq 1, arrive 1, grant 1 lead",
		"call 1, enq 1, arrive 1, grant 1 lead, call 0, enq 0",
		"call 1, enq 1, arrive 1, grant 1 lead, call 2, enq 2, arrive 2, call 0, enq 0, arrive 0",
		"call 0, enq 0, arrive 0, grant 0 lead, call 1, enq 1, unlock 0, grant 1",
		"call 0, enq 0, arrive 0, grant 0 lead, call 1, enq 1, unlock 0, return 0, grant 1, call 0, enq 0",
	}},
	{"leaving", "return 1", []string{
		"call 1, enq 1, arrive 1, grant 1 lead, unlock 1",
		"call 1, enq 1, arrive 1, grant 1 lead, call 0, enq 0, unlock 1",
		"call 1, enq 1, arrive 1, grant 1 lead, call 0, enq 0, unlock 1, grant 0",
		"call 1, enq 1, arrive 1, grant 1 lead, call 2, enq 2, arrive 2, unlock 1, grant 2 lead",
		"call 0, enq 0, arrive 0, grant 0 lead, call 1, enq 1, unlock 0, grant 1, unlock 1",
	}},
}

// situated are the homes of the situations' threads.
func situated() []int { return []int{5, 5, 2, 2} }

// inEachSituation does this with an automaton in each, and the entries of the
// thread 1 that fit then.
func inEachSituation(t *testing.T, do func(p *pair, fits []trace.Entry)) {
	t.Helper()
	for _, s := range situations {
		for _, words := range s.behind {
			p := starts(t, 2, situated()...)
			p.does(words)
			do(p, locktest.Read(t, s.fits))
		}
	}
}

// Each kind of entry fits where it does alone, with Lead and without.
func TestEachKindInEachStateP20_1(t *testing.T) {
	inEachSituation(t, func(p *pair, fits []trace.Entry) {
		l := p.model.taken
		for _, e := range each(1) {
			want := slices.Contains(fits, e)
			if got := p.again().takes(e); got != want {
				t.Fatalf("behind %v: %v fits: %t, want %t", l, e, got, want)
			}
			n := len(l)
			if want {
				n++
			}
			checks(t, situated(), 2, append(slices.Clone(l), e), n, want)
		}
	})
}

// One thread goes all ways that there are, again and again: its node's time, once
// begun, goes on.
func TestWaysOfOneP20_1(t *testing.T) {
	for _, of := range []struct{ one, threads int }{{0, 1}, {1, 2}, {63, 64}} {
		homes := make([]int, of.threads)
		homes[of.one] = 6
		p := starts(t, 0, homes...)
		for range 3 {
			for behind := range 4 {
				p.fits(locktest.Of(trace.Call, of.one), locktest.Of(trace.Enq, of.one))
				if behind == 0 {
					p.fits(locktest.Of(trace.Arrive, of.one), lead(of.one))
				} else {
					p.fits(locktest.Of(trace.Grant, of.one))
				}
				if got := p.lock.Count(); got != behind+1 {
					t.Fatalf("behind %v: Count() = %d", p.model.taken, got)
				}
				p.fits(locktest.Of(trace.Unlock, of.one), locktest.Of(trace.Return, of.one))
			}
		}
	}
}

// The threads of one node, each of whom waits for those ahead.
func TestOneNodeP20_1(t *testing.T) {
	starts(t, 3, 4, 4, 4).goes(
		step{"call 2, call 0", "[] row [] count 0 holds []"},
		step{"enq 0", "[0] row [] count 0 holds []"},
		step{"enq 2", "[0 2] row [] count 0 holds []"},
		step{"call 1, arrive 0", "[0 2] row [0] count 0 holds []"},
		step{"enq 1", "[0 2 1] row [0] count 0 holds []"},
		step{"grant 0 lead", "[2 1] row [] count 1 holds [0]"},
		step{"unlock 0", "[2 1] row [] count 1 holds []"},
		step{"grant 2", "[1] row [] count 2 holds [2]"},
		step{"return 0, call 0, enq 0", "[1 0] row [] count 2 holds [2]"},
		step{"unlock 2, return 2", "[1 0] row [] count 2 holds []"},
		step{"grant 1", "[0] row [] count 3 holds [1]"},
		step{"call 2, enq 2, arrive 0", "[0 2] row [0] count 3 holds [1]"},
		step{"unlock 1", "[0 2] row [0] count 3 holds []"},
		step{"grant 0 lead", "[2] row [] count 1 holds [0]"},
		step{"return 1, unlock 0, return 0", "[2] row [] count 1 holds []"},
		step{"grant 2, unlock 2", "[] row [] count 2 holds []"},
		step{"return 2", "[] row [] count 2 holds []"},
	)
}

// The threads of several nodes: their times come in the order of the row.
func TestSeveralNodesP20_1(t *testing.T) {
	starts(t, 2, 1, 0, 7, 1, 0, 7).goes(
		step{"call 0, enq 0, call 1, enq 1, call 2, enq 2", "[1] [0] [2] row [] count 0 holds []"},
		step{"call 3, enq 3, call 4, enq 4, call 5, enq 5", "[1 4] [0 3] [2 5] row [] count 0 holds []"},
		step{"arrive 2", "[1 4] [0 3] [2 5] row [2] count 0 holds []"},
		step{"arrive 0", "[1 4] [0 3] [2 5] row [2 0] count 0 holds []"},
		step{"grant 2 lead", "[1 4] [0 3] [5] row [0] count 1 holds [2]"},
		step{"arrive 1", "[1 4] [0 3] [5] row [0 1] count 1 holds [2]"},
		step{"unlock 2, grant 5", "[1 4] [0 3] [] row [0 1] count 2 holds [5]"},
		step{"return 2, call 2, enq 2", "[1 4] [0 3] [2] row [0 1] count 2 holds [5]"},
		step{"arrive 2", "[1 4] [0 3] [2] row [0 1 2] count 2 holds [5]"},
		step{"unlock 5", "[1 4] [0 3] [2] row [0 1 2] count 2 holds []"},
		step{"grant 0 lead", "[1 4] [3] [2] row [1 2] count 1 holds [0]"},
		step{"unlock 0", "[1 4] [3] [2] row [1 2] count 1 holds []"},
		step{"grant 1 lead", "[4] [3] [2] row [2] count 1 holds [1]"},
		step{"arrive 3", "[4] [3] [2] row [2 3] count 1 holds [1]"},
		step{"unlock 1, grant 4", "[] [3] [2] row [2 3] count 2 holds [4]"},
		step{"unlock 4, grant 2 lead", "[] [3] [] row [3] count 1 holds [2]"},
		step{"unlock 2, grant 3 lead", "[] [] [] row [] count 1 holds [3]"},
		step{"unlock 3, return 0, return 1, return 5", "[] [] [] row [] count 1 holds []"},
	)
}

// Where all arrive, each leads; the queue of a node keeps who has arrived and who
// hasn't in the order of their Enqs.
func TestArriveChangesNoQueueP20_1(t *testing.T) {
	p := starts(t, 0, 3, 3, 3)
	p.goes(
		step{"call 0, enq 0, call 1, enq 1, call 2, enq 2", "[0 1 2] row [] count 0 holds []"},
		step{"arrive 1", "[0 1 2] row [1] count 0 holds []"},
		step{"arrive 2", "[0 1 2] row [1 2] count 0 holds []"},
		step{"arrive 0", "[0 1 2] row [1 2 0] count 0 holds []"},
	)
	p.fitsNot(each(0, 1, 2)...)
	q := starts(t, 0, 3, 3, 3)
	q.goes(
		step{"call 0, enq 0, call 1, enq 1, call 2, enq 2", "[0 1 2] row [] count 0 holds []"},
		step{"arrive 0, arrive 1, arrive 2", "[0 1 2] row [0 1 2] count 0 holds []"},
		step{"grant 0 lead, unlock 0", "[1 2] row [1 2] count 1 holds []"},
		step{"grant 1 lead, unlock 1", "[2] row [2] count 1 holds []"},
		step{"grant 2 lead, unlock 2", "[] row [] count 1 holds []"},
	)
}

// Till the count is the budget, there may be one more Grant without Lead; a
// budget of 0, or below it, is no matter.
func TestBudgetP20_1(t *testing.T) {
	for _, budget := range budgets() {
		p := starts(t, budget, 2, 2, 9)
		p.does("call 0, enq 0, arrive 0, grant 0 lead, unlock 0, return 0")
		for count := 1; count < 20; count++ {
			one := count % 2
			p.fits(locktest.Of(trace.Call, one), locktest.Of(trace.Enq, one))
			if budget > 0 && count == budget {
				p.fitsNot(locktest.Of(trace.Grant, one), lead(one))
				p.fits(locktest.Of(trace.Arrive, one), lead(one))
				if got := p.lock.Count(); got != 1 {
					t.Fatalf("budget %d: Count() = %d behind a Lead", budget, got)
				}
				break
			}
			p.fits(locktest.Of(trace.Grant, one))
			if got := p.lock.Count(); got != count+1 {
				t.Fatalf("budget %d: Count() = %d, want %d", budget, got, count+1)
			}
			p.fits(locktest.Of(trace.Unlock, one), locktest.Of(trace.Return, one))
		}
	}
}

// The budget is that of a time, not that of a thread, nor of a node: each Lead
// begins to count.
func TestEachLeadBeginsToCountP20_1(t *testing.T) {
	for budget := 1; budget <= 4; budget++ {
		p := starts(t, budget, 8, 8, 3, 3)
		for time := range 6 {
			lord, vassal := time%2*2, time%2*2+1
			if time >= 4 {
				lord, vassal = 0, 1 // one node's time again behind its own
			}
			p.fits(locktest.Of(trace.Call, lord), locktest.Of(trace.Enq, lord), locktest.Of(trace.Arrive, lord), lead(lord))
			p.fits(locktest.Of(trace.Unlock, lord), locktest.Of(trace.Return, lord))
			for range budget - 1 {
				p.fits(locktest.Of(trace.Call, vassal), locktest.Of(trace.Enq, vassal), locktest.Of(trace.Grant, vassal))
				p.fits(locktest.Of(trace.Unlock, vassal), locktest.Of(trace.Return, vassal))
			}
			q := p.again()
			q.fits(locktest.Of(trace.Call, vassal), locktest.Of(trace.Enq, vassal))
			q.fitsNot(locktest.Of(trace.Grant, vassal))
		}
	}
}

// At first the time is nobody's: no Grant without Lead fits, of whatever node and
// budget; and it is no node's that is nobody's, either.
func TestTimeIsNobodysAtFirstP20_1(t *testing.T) {
	for _, budget := range budgets() {
		for _, node := range append(nobodys(nil), -3, 1, 7) {
			p := starts(t, budget, node, node, 0)
			p.does("call 0, enq 0, call 1, enq 1, call 2, enq 2")
			p.doesNot("grant 0, grant 1, grant 2")
			p.does("arrive 1")
			p.doesNot("grant 0, grant 1, grant 2")
			if got := p.lock.Count(); got != 0 {
				t.Fatalf("Count() = %d", got)
			}
		}
	}
}

// The time is that of the node of the last Lead, till the next one, whoever holds
// or leaves; a time that another node's has ended doesn't come again.
func TestTimeIsOfTheLastLeadP20_1(t *testing.T) {
	p := starts(t, 0, 0, 0, 1, 1)
	p.does("call 0, enq 0, call 1, enq 1, call 2, enq 2, call 3, enq 3, arrive 0")
	p.doesNot("grant 0, grant 2")
	p.does("grant 0 lead, unlock 0, return 0")
	p.doesNot("grant 2, grant 3, grant 0")
	p.does("arrive 2")
	q := p.again()
	q.does("grant 1, unlock 1")
	q.doesNot("grant 2, grant 3")
	q.does("grant 2 lead, unlock 2, grant 3")
	p.does("grant 2 lead, unlock 2")
	p.doesNot("grant 1")
	p.does("grant 3, unlock 3")
	p.doesNot("grant 1, grant 1 lead")
	p.does("arrive 1, grant 1 lead")
}

// Who is the first one of the one, and not of the other, doesn't lead.
func TestLeadOfOneThatIsFirstInOneAloneP20_1(t *testing.T) {
	for _, budget := range []int{0, 1, 2} {
		p := starts(t, budget, 6, 6, 1)
		p.does("call 0, enq 0, call 1, enq 1, call 2, enq 2")
		p.doesNot("grant 0 lead, grant 1 lead, grant 2 lead") // nobody is in the row
		p.does("arrive 1")
		p.doesNot("grant 0 lead, grant 1 lead, grant 2 lead") // 0 isn't in the row, 1 is behind it in the queue
		p.does("arrive 2")
		p.doesNot("grant 2 lead") // behind 1 in the row
		p.does("arrive 0")
		p.doesNot("grant 0 lead, grant 1 lead, grant 2 lead")
		q := starts(t, budget, 6, 6, 1)
		q.does("call 0, enq 0, call 1, enq 1, call 2, enq 2, arrive 2, arrive 0")
		q.doesNot("grant 0 lead, grant 1 lead")
		q.does("grant 2 lead, unlock 2")
		q.doesNot("grant 2 lead, grant 1 lead")
		q.does("grant 0 lead, unlock 0")
		q.doesNot("grant 0 lead, grant 1 lead, grant 2 lead")
	}
}

// While somebody is holding no Grant fits, with Lead or without, of whomever; as
// soon as that one is leaving, one does.
func TestGrantWhileSomebodyHoldsP20_1(t *testing.T) {
	grants := "grant 0, grant 1, grant 2, grant 0 lead, grant 1 lead, grant 2 lead"
	p := starts(t, 0, 0, 0, 7)
	p.does("call 0, enq 0, arrive 0, call 2, enq 2, arrive 2, call 1, enq 1, grant 0 lead")
	p.doesNot(grants)
	p.does("unlock 0")
	q := p.again()
	p.does("grant 1")
	p.doesNot(grants)
	p.does("unlock 1, grant 2 lead")
	p.doesNot(grants)
	q.does("grant 2 lead")
	q.doesNot(grants)
	q.does("return 0, call 0, enq 0")
	q.doesNot(grants)
}

// An entry that doesn't fit is as if it weren't there.
func TestNothingIsDoneP20_1(t *testing.T) {
	inEachSituation(t, func(p *pair, fits []trace.Entry) {
		for _, wrong := range each(-1, 0, 1, 2, 3, 4) {
			if p.model.fits(wrong) {
				continue
			}
			for _, e := range p.model.rights() {
				q := p.again()
				q.fitsNot(wrong, wrong)
				q.fits(e)
			}
		}
	})
}

// Any wrong entries amid right ones are as if they weren't there, however long it
// goes on.
func TestNothingIsDoneLaterP20_1(t *testing.T) {
	r := locktest.Numbers(200)
	for _, homes := range crowds()[1:8] {
		for _, budget := range []int{0, 1, 2, 3} {
			p := starts(t, budget, homes...)
			for range 400 {
				for range r.Below(6) {
					p.fitsNot(p.model.anyWrong(&r))
				}
				p.fits(p.model.anyRight(&r))
			}
		}
	}
}

// Each state that some threads can come to, from the first one on: behind each of
// them all entries, of which those that fit go on.
func TestEachStateP20_1(t *testing.T) {
	for _, of := range []struct {
		homes  []int
		budget int
	}{{[]int{2}, 0}, {[]int{2}, 1}, {[]int{2, 2}, 0}, {[]int{2, 2}, 1}, {[]int{2, 2}, 2}, {[]int{2, 5}, 0}, {[]int{2, 5}, 1}, {[]int{2, 5}, 2}, {[]int{2, 2, 5}, 2}, {[]int{5, 5, 5}, 1}} {
		all := each(-1, 0, 1, 2, 3)
		seen := map[string]bool{}
		next := []*pair{starts(t, of.budget, of.homes...)}
		for len(next) > 0 {
			p := next[0]
			next = next[1:]
			state := p.state()
			if seen[state] {
				continue
			}
			seen[state] = true
			for _, e := range all {
				if !p.model.fits(e) {
					p.fitsNot(e)
				}
			}
			for _, e := range p.model.rights() {
				q := p.again()
				q.fits(e)
				if q.lock.Count() <= 3 {
					next = append(next, q)
				}
			}
		}
		if len(seen) < 8 {
			t.Errorf("homes %v, budget %d: %d states", of.homes, of.budget, len(seen))
		}
	}
}

// state is all on which it hangs what fits from now on.
func (p *pair) state() string {
	m := p.model
	all := []any{m.with(trace.Arrive), len(m.row)}
	for t := range m.homes {
		all = append(all, m.last(t)%trace.Return, m.queue(m.homes[t]))
	}
	if len(m.row) > 0 {
		all = append(all, m.homes[m.row[0].Thread])
	}
	return fmt.Sprintln(all...)
}

// Any entries, of which many don't fit, of few threads and of many.
func TestAnyEntriesP20_1(t *testing.T) {
	r := locktest.Numbers(20)
	for _, homes := range crowds() {
		for _, budget := range budgets() {
			p := starts(t, budget, homes...)
			for range 250 {
				p.any(&r)
			}
			isTrace(t, homes, budget, p.model.taken)
		}
	}
}

// Where many wait, they do so in the order of their Enqs, and of their Arrives.
func TestLongQueuesP20_1(t *testing.T) {
	for _, n := range []int{64, 65, 1000} {
		homes := locktest.Within(n, 0, []int{0, 3})
		p := starts(t, 7, homes...)
		queues := map[int][]int{}
		for i := range 64 {
			one := 37 * i % 64
			p.fits(locktest.Of(trace.Call, one), locktest.Of(trace.Enq, one))
			queues[homes[one]] = append(queues[homes[one]], one)
		}
		for i := range 64 {
			one := queues[i%2*3][i/2]
			if i/2%4 == 0 {
				p.fits(locktest.Of(trace.Arrive, one))
			}
		}
		for i := range 64 {
			batch, node := i/4, i/4%2*3 // one that has arrived, and three that haven't
			one := queues[node][batch/2*4+i%4]
			if i%4 == 0 {
				p.fits(lead(one))
			} else {
				p.fits(locktest.Of(trace.Grant, one))
			}
			if got, want := p.lock.Queue(node), queues[node][batch/2*4+i%4+1:]; !slices.Equal(got, want) {
				t.Fatalf("Queue(%d) = %v, want %v", node, got, want)
			}
			p.fits(locktest.Of(trace.Unlock, one))
		}
	}
}

// There are as many threads as homes, and at most 64.
func TestHowManyThreadsP20_1(t *testing.T) {
	for _, n := range []int{0, 1, 2, 3, 31, 32, 33, 62, 63, 64, 65, 66, 100, 128, 256, 4097, 1<<16 + 1} {
		homes := slices.Repeat([]int{6}, n)
		for i := min(n, 64); i < n; i++ {
			homes[i] = 2 // nobody's: it is no thread's
		}
		p := starts(t, 0, homes...)
		var queue []int
		for one := -2; one < 70; one++ {
			call := []trace.Entry{locktest.Of(trace.Call, one)}
			if one < 0 || one >= min(n, 64) {
				p.fitsNot(each(one)...)
				checks(t, homes, 0, call, 0, false)
				continue
			}
			p.fits(call[0], locktest.Of(trace.Enq, one))
			checks(t, homes, 0, call, 1, true)
			queue = append(queue, one)
		}
		if got := p.lock.Queue(6); !slices.Equal(got, queue) {
			t.Fatalf("%d homes: Queue(6) = %v", n, got)
		}
		if got := p.lock.Queue(2); len(got) != 0 {
			t.Fatalf("%d homes: Queue(2) = %v", n, got)
		}
	}
}

// Homes are any numbers: two threads are of one node where these are one, and
// else not, however near they are.
func TestAnyHomesP20_1(t *testing.T) {
	homes := []int{0, -1, 1, 8, -8, 1 << 32, 1<<32 - 1, -1 << 32, 256, math.MaxInt64, math.MinInt64, math.MinInt64 + 8, math.MaxInt32, math.MinInt32}
	n := len(homes)
	homes = append(homes, homes...)
	p := starts(t, 2, homes...)
	for i := range 2 * n {
		p.fits(locktest.Of(trace.Call, i), locktest.Of(trace.Enq, i))
	}
	for i := range n {
		if got := p.lock.Queue(homes[i]); !slices.Equal(got, []int{i, n + i}) {
			t.Fatalf("Queue(%d) = %v", homes[i], got)
		}
		p.fits(locktest.Of(trace.Arrive, i), lead(i), locktest.Of(trace.Unlock, i))
		for j := range n {
			if j > i {
				p.fitsNot(locktest.Of(trace.Grant, j))
			} else if j < i {
				p.fitsNot(locktest.Of(trace.Grant, n+j))
			}
		}
		q := p.again()
		q.fits(locktest.Of(trace.Grant, n+i))
	}
}

// A node that is nobody's has nobody in its queue, whoever waits.
func TestNodeThatIsNobodysP20_1(t *testing.T) {
	inEachSituation(t, func(p *pair, fits []trace.Entry) {
		for node := -100; node < 100; node++ {
			if got := p.lock.Queue(node); len(got) > 0 && node != 2 && node != 5 {
				t.Fatalf("Queue(%d) = %v", node, got)
			}
		}
		for _, node := range locktest.NoContexts(2) {
			for _, near := range []int{node + 2, node + 5, node} {
				if got := p.lock.Queue(near); len(got) > 0 && near != 2 && near != 5 {
					t.Fatalf("Queue(%d) = %v", near, got)
				}
			}
		}
	})
}

// Whoever changes homes behind New changes no automaton.
func TestHomesAreNotKeptP20_1(t *testing.T) {
	for _, n := range []int{3, 64, 65} {
		homes := make([]int, n)
		p := starts(t, 0, homes...)
		p.lock = two.New(homes, 0)
		for i := range homes {
			homes[i] = i + 3
		}
		p.does("call 0, enq 0, call 1, enq 1")
		for i := range homes {
			homes[i] = 1
		}
		p.does("arrive 0, grant 0 lead, unlock 0")
		homes[1] = 7
		p.does("grant 1, call 2, enq 2, unlock 1, grant 2")
		if got := homes[0]; got != 1 {
			t.Fatalf("the home is %d", got)
		}
	}
}

// Of a thread that there isn't no entry fits, whatever the others do.
func TestNoSuchThreadP20_1(t *testing.T) {
	inEachSituation(t, func(p *pair, fits []trace.Entry) {
		for _, none := range locktest.NoContexts(4) {
			p.fitsNot(each(none)...)
		}
		for _, e := range fits {
			p.again().fits(e)
		}
	})
	for _, homes := range crowds() {
		p := starts(t, 0, homes...)
		n := min(len(homes), 64)
		for one := range n {
			p.fits(locktest.Of(trace.Call, one), locktest.Of(trace.Enq, one))
		}
		for _, none := range locktest.NoContexts(n) {
			p.fitsNot(each(none)...)
		}
	}
}

// An entry with Lead that is no Grant fits nothing, of whatever kind.
func TestLeadThatIsNoGrantP20_1(t *testing.T) {
	inEachSituation(t, func(p *pair, fits []trace.Entry) {
		for _, e := range each(-1, 0, 1, 2, 3, 4) {
			if e.Lead && e.Kind != trace.Grant {
				p.fitsNot(e)
			}
		}
		for _, kind := range noKinds() {
			p.fitsNot(trace.Entry{Kind: kind, Thread: 1, Lead: true})
		}
		p.fits(fits[:min(len(fits), 1)]...)
	})
}

// An entry of another kind fits nothing, be it Timeout, Refuse or no kind at all.
func TestOtherKindsP20_1(t *testing.T) {
	inEachSituation(t, func(p *pair, fits []trace.Entry) {
		for _, kind := range noKinds() {
			for one := -1; one <= 4; one++ {
				p.fitsNot(locktest.Of(kind, one))
			}
		}
		p.fits(fits[:min(len(fits), 1)]...)
	})
}

// Ticks don't matter, whatever they are, and in whatever order.
func TestTicksP20_1(t *testing.T) {
	r := locktest.Numbers(201)
	homes := []int{1, 1, 0}
	for range 200 {
		l := anyTrace(&r, homes, 2, 16)
		m := newModel(homes, 2)
		for _, e := range l {
			m.take(e)
		}
		l = append(l, m.anyEntry(&r))
		n, all := two.Check(homes, 2, l)
		for _, first := range locktest.Ticks() {
			for _, by := range []int{0, 1, -1, 1 << 40, math.MinInt64} {
				for i := range l {
					l[i].Now = first + by*i
				}
				checks(t, homes, 2, l, n, all)
			}
		}
	}
}

// Check tells how many there are ahead of the first one that doesn't fit: what
// stands behind that one doesn't matter, even if it fits.
func TestCheckP20_1(t *testing.T) {
	r := locktest.Numbers(202)
	for range 1000 {
		homes := locktest.Within(1+r.Below(5), 0, []int{4, 0, 4})
		budget := r.Below(4) - 1
		m := newModel(homes, budget)
		for range r.Below(40) {
			m.take(m.anyRight(&r))
		}
		l := slices.Clone(m.taken)
		n := len(l)
		isTrace(t, homes, budget, l)
		l = append(l, m.anyWrong(&r))
		checks(t, homes, budget, l, n, false)
		for range 9 {
			l = append(l, m.anyRight(&r))
			m.take(l[len(l)-1])
			checks(t, homes, budget, l, n, false)
		}
	}
}

// The first entry that doesn't fit may stand anywhere, also more than once.
func TestCheckOfWrongOnesAmidP20_1(t *testing.T) {
	homes := []int{3, 3, 0}
	good := locktest.Read(t, "call 0, enq 0, call 1, arrive 0, grant 0 lead, enq 1, call 2, enq 2, unlock 0, arrive 2, grant 1, return 0, unlock 1, grant 2 lead, call 0, unlock 2, return 2, return 1")
	for _, budget := range []int{-1, 0, 2, 3} {
		isTrace(t, homes, budget, good)
		isTrace(t, append(homes, 3), budget, good)
	}
	for at := range len(good) + 1 {
		for _, wrong := range []trace.Entry{{}, locktest.Of(trace.Timeout, 0), locktest.Of(trace.Refuse, 1), locktest.Of(9, 0), locktest.Of(trace.Call, 3), locktest.Of(trace.Call, -1), {Kind: trace.Call, Lead: true}} {
			checks(t, homes, 0, slices.Insert(slices.Clone(good), at, wrong), at, false)
			checks(t, homes, 0, slices.Insert(slices.Clone(good), at, wrong, wrong), at, false)
		}
	}
	checks(t, homes, 1, good, 10, false)
	checks(t, homes[:2], 0, good, 6, false)
	checks(t, homes[:1], 0, good, 2, false)
	checks(t, nil, 0, good, 0, false)
	checks(t, []int{0, 1, 0}, 0, good, 10, false)
}

func TestNoEntriesP20_1(t *testing.T) {
	for _, homes := range crowds() {
		for _, budget := range budgets() {
			checks(t, homes, budget, nil, 0, true)
			checks(t, homes, budget, []trace.Entry{}, 0, true)
		}
	}
}

// No number of entries is too many, and no count too great.
func TestManyEntriesP20_1(t *testing.T) {
	l := locktest.Read(t, "call 1, enq 1, arrive 1, grant 1 lead, unlock 1, return 1")
	for range 100000 {
		for _, kind := range []int{trace.Call, trace.Enq, trace.Grant, trace.Unlock, trace.Return} {
			l = append(l, locktest.Of(kind, 1))
		}
	}
	x := two.New([]int{0, 2}, 0)
	for i, e := range l {
		if !x.Take(e) {
			t.Fatalf("entry %d doesn't fit", i)
		}
	}
	if got := x.Count(); got != 100001 {
		t.Errorf("Count() = %d", got)
	}
	for budget, n := range map[int]int{0: len(l), 100001: len(l), 100000: len(l) - 3, 256: 6 + 5*255 + 2} {
		if got, ok := two.Check([]int{0, 2}, budget, l); got != n || ok != (n == len(l)) {
			t.Errorf("Check of %d entries, budget %d = %d, %t, want %d", len(l), budget, got, ok, n)
		}
	}
}

// A queue or a row that was told is the asker's own: who changes it changes
// nothing, and it stays what it was.
func TestToldIsTheAskersP20_1(t *testing.T) {
	p := starts(t, 0, 1, 1, 1, 1, 0)
	p.does("call 0, enq 0, call 1, enq 1, call 2, enq 2, call 4, enq 4, arrive 0, arrive 4")
	queue, row := p.lock.Queue(1), p.lock.Row()
	p.does("grant 0 lead, unlock 0, arrive 1")
	if !slices.Equal(queue, []int{0, 1, 2}) || !slices.Equal(row, []int{0, 4}) {
		t.Fatalf("what was told is %v and %v now", queue, row)
	}
	for _, ask := range []func() []int{func() []int { return p.lock.Queue(1) }, p.lock.Row, func() []int { return p.lock.Queue(0) }, func() []int { return p.lock.Queue(6) }} {
		told := ask()
		_ = append(told, 3)
		for i := range told {
			told[i] = 3
		}
		p.holds()
		clear(told[:cap(told)])
		p.holds()
	}
	queue, row = append(p.lock.Queue(1), 77), append(p.lock.Row(), 88)
	p.does("call 3, enq 3, arrive 3, grant 4 lead, unlock 4, return 0, call 0, enq 0")
	if !slices.Equal(queue, []int{1, 2, 77}) || !slices.Equal(row, []int{4, 1, 88}) {
		t.Fatalf("what was told is %v and %v now", queue, row)
	}
	p.does("grant 1 lead, unlock 1, grant 2, unlock 2, grant 3 lead, unlock 3, grant 0")
	q := starts(t, 0, 1, 1)
	if len(q.lock.Queue(1)) != 0 || len(q.lock.Row()) != 0 {
		t.Fatal("somebody waits at first")
	}
}

// Two automata are two, also of the same homes.
func TestTwoAutomataP20_1(t *testing.T) {
	r := locktest.Numbers(203)
	homes := []int{2, 2, 6}
	a, b := starts(t, 0, homes...), starts(t, 2, homes...)
	for range 2000 {
		p := a
		if r.Below(2) == 0 {
			p = b
		}
		p.any(&r)
		a.holds()
		b.holds()
	}
}

// orderly tells of entries alone whether at most one is holding at a time, of one
// node Grants come in the order of their Enqs, and Leads come in the order of
// their Arrives.
func orderly(homes []int, l []trace.Entry) bool {
	holding := map[int]bool{}
	waiting := map[int][]int{} // of each node, who has an Enq, and no Grant behind it
	var row []int              // who has an Arrive, and no Lead behind it
	for _, e := range l {
		node := homes[e.Thread]
		switch e.Kind {
		case trace.Enq:
			waiting[node] = append(waiting[node], e.Thread)
		case trace.Arrive:
			row = append(row, e.Thread)
		case trace.Grant:
			if len(holding) > 0 || !first(waiting[node], e.Thread) || e.Lead && !first(row, e.Thread) {
				return false
			}
			waiting[node] = waiting[node][1:]
			if e.Lead {
				row = row[1:]
			}
			holding[e.Thread] = true
		case trace.Unlock:
			delete(holding, e.Thread)
		}
	}
	return true
}

// first tells whether a thread is the first one of these.
func first(threads []int, t int) bool { return len(threads) > 0 && threads[0] == t }

// groups are homes of some threads, of one node and of several.
func groups() [][]int {
	return [][]int{{0}, {4, 4}, {1, 0}, {7, 7, 7}, {0, 0, 3, 3}, locktest.Homes(9, 2), locktest.Homes(64, 0)}
}

// Whatever entries come, those that fit are orderly; among them are many Grants,
// with Lead and without.
func TestWhatFitsIsOrderlyP20_2(t *testing.T) {
	r := locktest.Numbers(204)
	for _, homes := range groups() {
		for budget := range 4 {
			leads, others := 0, 0
			for range 30 {
				l := whatFits(t, &r, homes, budget)
				if !orderly(homes, l) {
					t.Fatalf("homes %v, budget %d: %v isn't orderly", homes, budget, l)
				}
				checks(t, homes, budget, l, len(l), true)
				grants := trace.Count(l, trace.Grant)
				l = slices.DeleteFunc(l, func(e trace.Entry) bool { return !e.Lead })
				leads += len(l)
				others += grants - len(l)
			}
			shared := len(nodes(homes)) < len(homes)
			if leads < 10 || shared && budget != 1 && others < 10 || budget == 1 && others > 0 {
				t.Errorf("homes %v, budget %d: %d led, %d came behind", homes, budget, leads, others)
			}
		}
	}
}

// whatFits are those of any entries that an automaton takes.
func whatFits(t *testing.T, r *locktest.Numbers, homes []int, budget int) []trace.Entry {
	m := newModel(homes, budget)
	x := two.New(homes, budget)
	var l []trace.Entry
	for range 150 {
		e := m.anyEntry(r)
		m.take(e)
		if x.Take(e) {
			l = append(l, e)
		}
	}
	return l
}

// What isn't orderly is no trace, however near it is to one.
func TestWhatIsNotOrderlyIsNoTraceP20_2(t *testing.T) {
	r := locktest.Numbers(205)
	for _, homes := range groups()[1:6] {
		orders, others := 0, 0
		for i := range 4000 {
			budget := i % 4
			l := anyTrace(&r, homes, budget, 40)
			if !orderly(homes, l) {
				t.Fatalf("%v isn't orderly", l)
			}
			l = locktest.Changed(&r, l)
			n, all := two.Check(homes, budget, l)
			if all != (n == len(l)) || !orderly(homes, l[:n]) {
				t.Fatalf("Check(%v, %d, %v) = %d, %t; orderly: %t", homes, budget, l, n, all, orderly(homes, l[:n]))
			}
			if orderly(homes, l) {
				orders++
			} else {
				others++
			}
		}
		if orders < 100 || others < 100 {
			t.Errorf("homes %v: %d were orderly, %d weren't", homes, orders, others)
		}
	}
}

// Two Grants of one node that are exchanged are none of a trace; nor are two
// Leads.
func TestExchangedGrantsP20_2(t *testing.T) {
	r := locktest.Numbers(206)
	homes := []int{3, 3, 3, 8, 8, 1}
	grants, leads := 0, 0
	for i := range 2000 {
		l := anyTrace(&r, homes, i%4, 60)
		for a, one := range l {
			for b, other := range l[:a] {
				if one.Kind != trace.Grant || other.Kind != trace.Grant || one.Thread == other.Thread {
					continue
				}
				changed := slices.Clone(l)
				changed[a].Thread, changed[b].Thread = other.Thread, one.Thread
				switch {
				case homes[one.Thread] == homes[other.Thread]:
					grants++
				case one.Lead && other.Lead:
					leads++
				default:
					continue
				}
				checks(t, homes, i%4, changed, b, false)
			}
		}
	}
	if grants < 100 || leads < 100 {
		t.Errorf("%d Grants of one node and %d Leads were exchanged", grants, leads)
	}
}
