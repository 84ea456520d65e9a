package locks

// asker is somebody who asked for a lock, alone or together with others.
type asker struct {
	who   int
	alone bool
}

// lock is a lock that one holds alone, or some together.
type lock struct {
	alone   bool
	holders map[int]struct{}
	queue   []asker
}

// admits tells whether somebody could have the lock beside those who hold it.
func (l *lock) admits(a asker) bool {
	return len(l.holders) == 0 || !a.alone && !l.alone
}

// next makes holders of those at the queue's front who can be, and cuts them off.
func (l *lock) next() []asker {
	n := 0
	for n < len(l.queue) && l.admits(l.queue[n]) {
		l.holders[l.queue[n].who] = struct{}{}
		l.alone = l.queue[n].alone
		n++
	}
	// Whoever puts others behind these does not write over those who still wait.
	in := l.queue[:n:n]
	l.queue = l.queue[n:]
	return in
}

// people are who they are: new memory, as what is cut off is a piece of a queue.
func people(l []asker) []int {
	who := make([]int, len(l))
	for i, a := range l {
		who[i] = a.who
	}
	return who
}
