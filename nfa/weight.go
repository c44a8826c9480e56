package nfa

import "pidgin/api"

// tooMuch is the greatest weight that is told apart.
const tooMuch = api.MaxStates + 1

// weight tells the weight of a part.
func weight(re api.Re) int {
	sum := 0
	switch re.Kind {
	case api.ReSet, api.ReBegin, api.ReEnd:
		return 1
	case api.ReRep:
		return weightOfRep(re)
	case api.ReAlt:
		sum = len(re.Kids) - 1
	}
	for _, kid := range re.Kids {
		sum = plus(sum, weight(kid))
	}
	return sum
}

// weightOfRep tells the weight of a part that stands more than once.
func weightOfRep(re api.Re) int {
	kid := weight(re.Kids[0])
	if re.Max < 0 {
		return plus((re.Min+1)*kid, 1)
	}
	return plus(re.Max*kid, re.Max-re.Min)
}

// plus tells a sum, brought to tooMuch at each step: so what an interval within intervals multiplies never wraps.
func plus(a, b int) int {
	return min(a+b, tooMuch)
}
