/- A region that draws its order, by facts: each step says itself which facts stay. Over any program. -/
import Derived.Test.YtnmdkbeicggfhaaGReg5
namespace Go.Proofs.Ytnmdkbeicggfhaa
open Go.RowKit

theorem facts_region6 {P : Program} {Q : Exit → Act → World → Prop} {a0 : Act} {w0 : World} {l : List Oper} {id : Nat} (G : World → Prop) (F : Nat → Value → World → Prop) (hm : P.follows .mixedOrders = true) (hc : okB l a0.tmps.size = true) (h0 : G w0.drew)
    (step : ∀ i o, l[i]? = some o → ∀ (a : Act) (w : World), G w → (∀ d : Tmp, late l i d = true → a.tmps[d]?.getD undef = a0.tmps[d]?.getD undef) →
      (∀ k ok, waits o k = true → l[k]? = some ok → F k (valOf a ok.dst) w) →
      ∀ K : Act → World → Prop, (∀ v, F i (own1 o.dst v) w → K (a.put o.dst v) w) → (∀ v w', G w' → (∀ j u, i ≠ j → F j u w → F j u w') → F i (own1 o.dst v) w' → K (a.put o.dst v) w') → if Region.wanted o (yielded l.toArray a.tmps) = true then Oper.wp P o a w K Q else K (a.put o.dst undef) w)
    (fin : ∀ (V : Option Tmp → Value) (w : World), G w → (∀ j o, l[j]? = some o → F j (V o.dst) w) → Q .normal (fillA a0 V l) w) : (Code.region id l.toArray true).wp P Q a0 w0 :=
  facts_region5 G (fun i W W' => (G W → G W') ∧ ∀ j v, i ≠ j → F j v W → F j v W') F hm hc h0 (fun _ j v _ _ hne hR h => hR.2 j v hne h) (fun _ _ _ hR hG => hR.1 hG)
    (fun i o ho a w hG hoff hdep K hK => step i o ho a w hG hoff hdep K (fun v hF => hK v w ⟨fun q => q, fun _ _ _ h => h⟩ hF) (fun v w' hG' hst hF => hK v w' ⟨fun _ => hG', hst⟩ hF)) fin

end Go.Proofs.Ytnmdkbeicggfhaa
