package heap

import "sorrel/api"

// unifier is a heap's slots and trail while terms in it are made alike.
type unifier struct {
	cells []api.Slot
	trail []int
}

// alike makes the terms at two places alike; false, if they can not be, or one is no slot's place.
func (u *unifier) alike(a int, b int) bool {
	// The pair that comes next stands last.
	pairs := [][2]int{{a, b}}
	met := map[[2]int]bool{}
	fails := false
pairing:
	for len(pairs) > 0 {
		x, y, are := u.followed(pairs[len(pairs)-1])
		pairs = pairs[:len(pairs)-1]
		switch {
		case !are:
			fails = true
			break pairing
		case x == y || met[[2]int{x, y}]:
		case u.free(x) || u.free(y):
			if !u.give(x, y) {
				fails = true
				break pairing
			}
		case u.cells[x] != u.cells[y]:
			fails = true
			break pairing
		case u.cells[x].Tag == api.Top:
			met[[2]int{x, y}] = true
			pairs = u.arguments(pairs, x, y)
		}
	}
	return !fails
}

// followed are both places of a pair, followed, the lesser one first: which comes first plays no part.
func (u *unifier) followed(pair [2]int) (int, int, bool) {
	x, isX := follow(u.cells, pair[0])
	y, isY := follow(u.cells, pair[1])
	return min(x, y), max(x, y), isX && isY
}

// arguments puts the pairs of two tops' slots behind others, the first one last.
func (u *unifier) arguments(pairs [][2]int, x int, y int) [][2]int {
	first, behind := leads(u.cells, x)
	for to := behind - 1; to >= first; to-- {
		pairs = append(pairs, [2]int{to, to - x + y})
	}
	return pairs
}

// give binds the one of two places that is a free variable to the other one, and of two such ones the
// greater one, y, to the lesser one; false, if it stands within that.
func (u *unifier) give(x int, y int) bool {
	at, to := y, x
	if !u.free(y) {
		at, to = x, y
	}
	if u.reaches(to, at) {
		return false
	}
	u.cells[at].N = to
	u.trail = append(u.trail, at)
	return true
}

func (u *unifier) free(at int) bool {
	return free(u.cells[at], at)
}

// reaches says whether a place leads, in any many steps, to another one.
func (u *unifier) reaches(from int, goal int) bool {
	// What is shared is gone into once.
	met := make([]bool, len(u.cells))
	todo := []int{from}
	for len(todo) > 0 {
		at := todo[len(todo)-1]
		todo = todo[:len(todo)-1]
		if at == goal {
			return true
		}
		if met[at] {
			continue
		}
		met[at] = true
		first, behind := leads(u.cells, at)
		for to := first; to < behind; to++ {
			todo = append(todo, to)
		}
	}
	return false
}
