package affine

import (
	"celluloid/api"
	"celluloid/field"
)

// How far the numbers of changes and colours go.
const (
	maxMul  = 512
	maxAdd  = 255
	maxPart = 255
)

// wholeMul is the Mul that changes nothing: 1, with 8 bits behind the point.
const wholeMul = 256

// ComposeCx: the change by inner first, by outer then, as far as changes go; nothing, if one is not right.
func ComposeCx(outer api.Cx, inner api.Cx) api.Cx {
	if !field.RightCx(outer) || !field.RightCx(inner) {
		return api.Cx{}
	}
	var c api.Cx
	for i, mul := range outer.Mul {
		c.Mul[i] = within(-maxMul, times(inner.Mul[i], mul), maxMul)
		c.Add[i] = within(-maxAdd, times(inner.Add[i], mul)+outer.Add[i], maxAdd)
	}
	return c
}

// Color: a colour, changed, as far as colours go; nothing, if one of both is not right.
func Color(c api.Cx, k api.RGBA) api.RGBA {
	if !field.RightCx(c) || !field.RightRGBA(k) {
		return api.RGBA{}
	}
	return api.RGBA{R: part(c, 0, k.R), G: part(c, 1, k.G), B: part(c, 2, k.B), A: part(c, 3, k.A)}
}

// part i of a colour, changed.
func part(c api.Cx, i int, v int) int {
	return within(0, times(v, c.Mul[i])+c.Add[i], maxPart)
}

// times multiplies by a Mul.
func times(v int, mul int) int {
	return floor(v*mul, wholeMul)
}

// within brings v to the end that it is beyond.
func within(least int, v int, most int) int {
	return min(max(v, least), most)
}
