package spaces

import (
	"pavane/api"
)

// keeper keeps what holds at the elements, each as long as there are more
// elements within it: were all of them kept, copies of one great holding could
// take far more memory than the document.
type keeper struct {
	held    []holding
	waiting []int // how many elements directly within each are still to come
}

// keep answers a keeper for the elements l.
func keep(l []api.Elem) keeper {
	k := keeper{held: make([]holding, len(l)), waiting: make([]int, len(l))}
	for _, x := range l {
		if x.Up != outside {
			k.waiting[x.Up]++
		}
	}
	return k
}

// around answers what holds around the next element, which is directly within
// the one at the place up.
func (k *keeper) around(up int) holding {
	if up == outside {
		return beginning()
	}
	h := k.held[up]
	k.waiting[up]--
	if k.waiting[up] == 0 {
		k.held[up] = nil
	}
	return h
}

// put keeps what holds at the element at this place.
func (k *keeper) put(place int, h holding) {
	if k.waiting[place] > 0 {
		k.held[place] = h
	}
}
