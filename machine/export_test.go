package machine

import "weighlock/cohort"

// SetNow sets the clock: by ticks alone nobody comes by its end.
func (m *Machine) SetNow(now int) { m.now = now }

// Wrap puts another lock in the place of a machine's own.
func (m *Machine) Wrap(wrap func(cohort.Locker) cohort.Locker) { m.lock = wrap(m.lock) }
