/- What a plate does to a light it does to its four numbers: the identities, plainly. -/
import Derived.Test.YtloebnlmeplgbaaBs
namespace Go.Proofs.Ytloebnlmeplgbaa
set_option maxHeartbeats 8000000 in
theorem polar_0 (a1 a2 b1 b2 c1 c2 d1 d2 x1 x2 y1 y2 : Int) :
    ((a1*a1+a2*a2)+(b1*b1+b2*b2)+(c1*c1+c2*c2)+(d1*d1+d2*d2)) * ((x1*x1+x2*x2)+(y1*y1+y2*y2)) + ((a1*a1+a2*a2)-(b1*b1+b2*b2)+(c1*c1+c2*c2)-(d1*d1+d2*d2)) * ((x1*x1+x2*x2)-(y1*y1+y2*y2)) + (2*(a1*b1+a2*b2)+2*(c1*d1+c2*d2)) * (2*(x1*y1+x2*y2)) + (-(2*(a2*b1-a1*b2))-2*(c2*d1-c1*d2)) * (2*(x2*y1-x1*y2))
    = 2 * (((a1*x1-a2*x2+(b1*y1-b2*y2))*(a1*x1-a2*x2+(b1*y1-b2*y2))+(a1*x2+a2*x1+(b1*y2+b2*y1))*(a1*x2+a2*x1+(b1*y2+b2*y1)))+((c1*x1-c2*x2+(d1*y1-d2*y2))*(c1*x1-c2*x2+(d1*y1-d2*y2))+(c1*x2+c2*x1+(d1*y2+d2*y1))*(c1*x2+c2*x1+(d1*y2+d2*y1)))) := by
  grind
set_option maxHeartbeats 8000000 in
theorem polar_1 (a1 a2 b1 b2 c1 c2 d1 d2 x1 x2 y1 y2 : Int) :
    ((a1*a1+a2*a2)+(b1*b1+b2*b2)-(c1*c1+c2*c2)-(d1*d1+d2*d2)) * ((x1*x1+x2*x2)+(y1*y1+y2*y2)) + ((a1*a1+a2*a2)-(b1*b1+b2*b2)-(c1*c1+c2*c2)+(d1*d1+d2*d2)) * ((x1*x1+x2*x2)-(y1*y1+y2*y2)) + (2*(a1*b1+a2*b2)-2*(c1*d1+c2*d2)) * (2*(x1*y1+x2*y2)) + (-(2*(a2*b1-a1*b2))+2*(c2*d1-c1*d2)) * (2*(x2*y1-x1*y2))
    = 2 * (((a1*x1-a2*x2+(b1*y1-b2*y2))*(a1*x1-a2*x2+(b1*y1-b2*y2))+(a1*x2+a2*x1+(b1*y2+b2*y1))*(a1*x2+a2*x1+(b1*y2+b2*y1)))-((c1*x1-c2*x2+(d1*y1-d2*y2))*(c1*x1-c2*x2+(d1*y1-d2*y2))+(c1*x2+c2*x1+(d1*y2+d2*y1))*(c1*x2+c2*x1+(d1*y2+d2*y1)))) := by
  grind
set_option maxHeartbeats 8000000 in
theorem polar_2 (a1 a2 b1 b2 c1 c2 d1 d2 x1 x2 y1 y2 : Int) :
    (2*(a1*c1+a2*c2)+2*(b1*d1+b2*d2)) * ((x1*x1+x2*x2)+(y1*y1+y2*y2)) + (2*(a1*c1+a2*c2)-2*(b1*d1+b2*d2)) * ((x1*x1+x2*x2)-(y1*y1+y2*y2)) + (2*(a1*d1+a2*d2)+2*(b1*c1+b2*c2)) * (2*(x1*y1+x2*y2)) + (2*(b2*c1-b1*c2)-2*(a2*d1-a1*d2)) * (2*(x2*y1-x1*y2))
    = 2 * (2*((a1*x1-a2*x2+(b1*y1-b2*y2))*(c1*x1-c2*x2+(d1*y1-d2*y2))+(a1*x2+a2*x1+(b1*y2+b2*y1))*(c1*x2+c2*x1+(d1*y2+d2*y1)))) := by
  grind
set_option maxHeartbeats 8000000 in
theorem polar_3 (a1 a2 b1 b2 c1 c2 d1 d2 x1 x2 y1 y2 : Int) :
    (2*(a2*c1-a1*c2)+2*(b2*d1-b1*d2)) * ((x1*x1+x2*x2)+(y1*y1+y2*y2)) + (2*(a2*c1-a1*c2)-2*(b2*d1-b1*d2)) * ((x1*x1+x2*x2)-(y1*y1+y2*y2)) + (2*(a2*d1-a1*d2)+2*(b2*c1-b1*c2)) * (2*(x1*y1+x2*y2)) + (2*(a1*d1+a2*d2)-2*(b1*c1+b2*c2)) * (2*(x2*y1-x1*y2))
    = 2 * (2*((a1*x2+a2*x1+(b1*y2+b2*y1))*(c1*x1-c2*x2+(d1*y1-d2*y2))-(a1*x1-a2*x2+(b1*y1-b2*y2))*(c1*x2+c2*x1+(d1*y2+d2*y1)))) := by
  grind
theorem polar_sq (x1 x2 y1 y2 : Int) : ((x1*x1+x2*x2)+(y1*y1+y2*y2)) * ((x1*x1+x2*x2)+(y1*y1+y2*y2)) = ((x1*x1+x2*x2)-(y1*y1+y2*y2)) * ((x1*x1+x2*x2)-(y1*y1+y2*y2)) + (2*(x1*y1+x2*y2)) * (2*(x1*y1+x2*y2)) + (2*(x2*y1-x1*y2)) * (2*(x2*y1-x1*y2)) := by
  grind
end Go.Proofs.Ytloebnlmeplgbaa
