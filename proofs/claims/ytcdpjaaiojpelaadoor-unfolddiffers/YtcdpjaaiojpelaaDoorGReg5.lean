/- A region that draws its order, by facts about each operation's own value and the world alone; what a slot held ahead of the region is known as long as who writes it waits for who asks. Over any program. -/
import Derived.Test.YtcdpjaaiojpelaaDoorGReg
namespace Go.Proofs.YtcdpjaaiojpelaaDoor
open Go.RowKit

theorem facts_region5 {P : Program} {Q : Exit → Act → World → Prop} {a0 : Act} {w0 : World} {l : List Oper} {id : Nat} (G : World → Prop) (R : Nat → World → World → Prop) (F : Nat → Value → World → Prop) (hm : P.follows .mixedOrders = true) (hc : okB l a0.tmps.size = true) (h0 : G w0.drew)
    (stab : ∀ i j v w w', i ≠ j → R i w w' → F j v w → F j v w') (gl : ∀ i w w', R i w w' → G w → G w')
    (step : ∀ i o, l[i]? = some o → ∀ (a : Act) (w : World), G w → (∀ d : Tmp, late l i d = true → a.tmps[d]?.getD undef = a0.tmps[d]?.getD undef) →
      (∀ k ok, waits o k = true → l[k]? = some ok → F k (valOf a ok.dst) w) →
      ∀ K : Act → World → Prop, (∀ v w', R i w w' → F i (own1 o.dst v) w' → K (a.put o.dst v) w') → if Region.wanted o (yielded l.toArray a.tmps) = true then Oper.wp P o a w K Q else K (a.put o.dst undef) w)
    (fin : ∀ (V : Option Tmp → Value) (w : World), G w → (∀ j o, l[j]? = some o → F j (V o.dst) w) → Q .normal (fillA a0 V l) w) : (Code.region id l.toArray true).wp P Q a0 w0 := by
  refine facts_region3 G R (fun _ => l.length) (fun _ _ => false) (fun j V W => ∀ o, l[j]? = some o → F j (V o.dst) W) hm hc h0 (fun _ _ _ _ _ _ h => by cases h) (fun i j V w w' hne _ _ hR h o ho => stab i j _ w w' hne hR (h o ho)) gl ?_ ?_ ?_
  · intro j o V V' w ho hd _ h o' ho'
    rw [ho] at ho'
    obtain rfl := Option.some.inj ho'
    rw [← hd]
    exact h o ho
  · intro i o ho a w hG hoff hdep K hK
    refine step i o ho a w hG hoff (fun k ok hk hl => hdep k hk (.inr (Nat.le_refl _)) ok hl) K (fun v w' hR hF => hK v w' hR (fun V' h1 _ o' ho' => ?_))
    rw [ho] at ho'
    obtain rfl := Option.some.inj ho'
    rw [h1]
    exact hF
  · intro V w hG h
    exact fin V w hG (fun j o ho => h j o ho (Nat.le_refl _) o ho)

end Go.Proofs.YtcdpjaaiojpelaaDoor

namespace Go.Proofs.YtcdpjaaiojpelaaDoor
open Go.RowKit

theorem facts_region6 {P : Program} {Q : Exit → Act → World → Prop} {a0 : Act} {w0 : World} {l : List Oper} {id : Nat} (G : World → Prop) (F : Nat → Value → World → Prop) (hm : P.follows .mixedOrders = true) (hc : okB l a0.tmps.size = true) (h0 : G w0.drew)
    (step : ∀ i o, l[i]? = some o → ∀ (a : Act) (w : World), G w → (∀ d : Tmp, late l i d = true → a.tmps[d]?.getD undef = a0.tmps[d]?.getD undef) →
      (∀ k ok, waits o k = true → l[k]? = some ok → F k (valOf a ok.dst) w) →
      ∀ K : Act → World → Prop, (∀ v, F i (own1 o.dst v) w → K (a.put o.dst v) w) → (∀ v w', G w' → (∀ j u, i ≠ j → F j u w → F j u w') → F i (own1 o.dst v) w' → K (a.put o.dst v) w') → if Region.wanted o (yielded l.toArray a.tmps) = true then Oper.wp P o a w K Q else K (a.put o.dst undef) w)
    (fin : ∀ (V : Option Tmp → Value) (w : World), G w → (∀ j o, l[j]? = some o → F j (V o.dst) w) → Q .normal (fillA a0 V l) w) : (Code.region id l.toArray true).wp P Q a0 w0 :=
  facts_region5 G (fun i W W' => (G W → G W') ∧ ∀ j v, i ≠ j → F j v W → F j v W') F hm hc h0 (fun _ j v _ _ hne hR h => hR.2 j v hne h) (fun _ _ _ hR hG => hR.1 hG)
    (fun i o ho a w hG hoff hdep K hK => step i o ho a w hG hoff hdep K (fun v hF => hK v w ⟨fun q => q, fun _ _ _ h => h⟩ hF) (fun v w' hG' hst hF => hK v w' ⟨fun _ => hG', hst⟩ hF)) fin

end Go.Proofs.YtcdpjaaiojpelaaDoor
