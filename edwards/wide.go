package edwards

import (
	"keyward/api"
	"keyward/field"
)

// wide is the point (x by z, y by z), with t for x·y by z: sums of such need no division, which only narrow pays for.
type wide struct {
	x, y, z, t api.Fe
}

func widen(p api.Point) wide {
	return wide{x: p.X, y: p.Y, z: field.Small(1), t: field.Mul(p.X, p.Y)}
}

func (p wide) narrow() api.Point {
	divisor := field.Inv(p.z)
	return api.Point{X: field.Mul(p.x, divisor), Y: field.Mul(p.y, divisor)}
}

// plus is the sum of any two points that are On, of one and itself too: its divisors are Add's, and never 0.
func (p wide) plus(q wide) wide {
	cross := field.Add(field.Mul(p.x, q.y), field.Mul(p.y, q.x))
	straight := field.Add(field.Mul(p.y, q.y), field.Mul(p.x, q.x))
	one, part := field.Mul(p.z, q.z), field.Mul(curve, field.Mul(p.t, q.t))
	above, below := field.Add(one, part), field.Sub(one, part)
	// The sum is (cross by above, straight by below): the product of both divisors is one for the two.
	return wide{
		x: field.Mul(cross, below),
		y: field.Mul(straight, above),
		z: field.Mul(above, below),
		t: field.Mul(cross, straight),
	}
}

// multiples are p, as often as each place says.
func (p wide) multiples() [16]wide {
	out := [16]wide{widen(nothing())}
	for i := range len(out) - 1 {
		out[i+1] = out[i].plus(p)
	}
	return out
}
