package state

import (
	"slices"

	"roadstead/api"
	"roadstead/topic"
)

// Why a message died: it was given back too often, or its lease was over too often.
const (
	byNack = "nack"
	byTime = "time"
)

// Right says whether a state may be.
func Right(s api.State) bool {
	if !within(s.Clock, 0, api.MaxClock) || !within(s.Next, 1, api.MaxSeq) || !within(s.Last, 0, api.MaxSeq) || len(s.Subs) > api.MaxSubs {
		return false
	}
	ahead := 0
	for _, x := range s.Subs {
		if x.ID <= ahead || x.ID > s.Last || !Good(x, s.Clock, s.Next) {
			return false
		}
		ahead = x.ID
	}
	return true
}

// Good says whether a subscription may be, at a time, ahead of a number.
func Good(x api.Sub, clock, next int) bool {
	return within(x.ID, 1, api.MaxSeq) && name(x.Name) && topic.Pattern(x.Topic) && topic.Attrs(x.Want) &&
		within(x.Lease, 1, api.MaxLease) && within(x.Most, 1, api.MaxTries) && len(x.Note) <= api.MaxTopic &&
		x.Floor >= 0 && x.Floor < next && acks(x, next) && queue(x, clock, next)
}

// acks says whether what is acknowledged above the floor may be.
func acks(x api.Sub, next int) bool {
	return len(x.Acks) <= api.MaxAcks && rising(x.Acks, x.Floor, next)
}

// queue says whether the messages of a subscription may be.
func queue(x api.Sub, clock, next int) bool {
	if len(x.Queue) > api.MaxQueue {
		return false
	}
	var seqs []int
	for _, m := range x.Queue {
		if slices.Contains(x.Acks, m.Seq) || !message(m, x, clock) {
			return false
		}
		seqs = append(seqs, m.Seq)
	}
	return rising(seqs, x.Floor, next)
}

// message says whether one may be in the queue of a subscription, whatever its number.
func message(m api.Message, x api.Sub, clock int) bool {
	if len(m.Body) > api.MaxBody || !topic.Attrs(m.Attr) || !within(m.Prio, 0, api.MaxPrio) {
		return false
	}
	switch {
	case m.Dead:
		return m.Until == 0 && (m.Why == byNack || m.Why == byTime) && m.Tries == x.Most
	case m.Why != "":
		return false
	case m.Until > 0:
		return within(m.Tries, 1, x.Most) && leased(m.Until, clock, x.Lease)
	}
	return m.Until == 0 && within(m.Tries, 0, x.Most-1)
}

// leased says whether a lease that ends so may be at a time.
func leased(until, clock, lease int) bool {
	// The time that is left may be more than an int holds, if the clock is far below nought; and the sum of clock and lease, if it is far above.
	return until > clock && uint64(until)-uint64(clock) <= uint64(lease)
}

// rising says whether numbers rise, all of them between two others.
func rising(l []int, low, high int) bool {
	for _, n := range l {
		if n <= low || n >= high {
			return false
		}
		low = n
	}
	return true
}

// name says whether a subscription may be called so: by signs of a to z and 0 to 9.
func name(s string) bool {
	if !within(len(s), 1, api.MaxName) {
		return false
	}
	for _, sign := range s {
		if (sign < 'a' || sign > 'z') && (sign < '0' || sign > '9') {
			return false
		}
	}
	return true
}

// within says whether a number is one of some in a row.
func within(n, first, last int) bool {
	return first <= n && n <= last
}
