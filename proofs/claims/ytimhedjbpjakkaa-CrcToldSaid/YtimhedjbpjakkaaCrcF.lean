/- All that is asked of a table of sums holds of package crc's. No statement of the seat is proved here. -/
import Derived.Test.YtimhedjbpjakkaaCrcE
namespace Go.Proofs.Ytimhedjbpjakkaa
theorem tabC : TabC Tab where
  new := Tab.new
  only := fun h ho hn => h.only ho hn
  lt := fun h => h.lt
  head := fun h => h.head
  row := fun g i w h => tab_row g i w h
  sum := fun g S pv pss w h hp hS => tab_of g S pv pss w h hp hS
  more := fun g S s x bs w h hs hx hS => tab_more g S s x bs w h hs hx hS
  join := fun g a b n w h ha hb hn => tab_join g a b n w h ha hb hn
  mark := fun g S x bs w h hx hS hl => tab_mark g S x bs w h hx hS hl
  holds := fun g S x bs w h hx hS hl => tab_holds g S x bs w h hx hS hl
end Go.Proofs.Ytimhedjbpjakkaa
