package link

import "squelch/smooth"

const idle = 300 // ticks of T3

// timers is when a link asks again.
type timers struct {
	answers *smooth.Smoother
	t1, t3  int // how many ticks are left; 0: it doesn't run
	ran     int // how many ticks T1 ran
	tries   int // how often T1 went off, one behind the other
}

// learn lets T1 begin with so many ticks, as nothing is known of the answers.
func (t *timers) learn(t1 int) { t.answers = smooth.New(t1) }

// start lets T1 run from the beginning.
func (t *timers) start() { t.t1, t.t3, t.ran = t.answers.T1(), 0, 0 }

// stop lets T1 run no more.
func (t *timers) stop() { t.t1, t.t3, t.ran, t.tries = 0, 0, 0, 0 }

// answered notes that an answer came: if T1 went off ahead of it nobody can tell what it answers, and so how long that took.
func (t *timers) answered() {
	if t.t1 > 0 && t.tries == 0 {
		t.answers.Took(t.ran)
	}
	t.stop()
}

// run lets T1 run if an answer is awaited, else T3.
func (t *timers) run(awaited bool) {
	switch {
	case awaited && t.t1 == 0:
		t.start()
	case !awaited && t.t3 == 0:
		t.t3 = idle
	}
}

// pass lets a tick go by: it tells whether T1 goes off, and whether T3 does.
func (t *timers) pass() (bool, bool) {
	switch {
	case t.t1 > 0:
		t.t1--
		t.ran++
		return t.t1 == 0, false
	case t.t3 > 0:
		t.t3--
		return false, t.t3 == 0
	}
	return false, false
}
