/- A region that draws its order, by facts: a fact may speak of the values of what its operation waited for; one fact holds ahead of the region, till one operation uses it up; each step says itself which facts stay. Over any program. -/
import Derived.Test.YtnmdkbeicggfhaaGReg4
namespace Go.Proofs.Ytnmdkbeicggfhaa
open Go.RowKit

theorem facts_region7 {P : Program} {Q : Exit → Act → World → Prop} {a0 : Act} {w0 : World} {l : List Oper} {id : Nat} (G : World → Prop) (F : Nat → (Option Tmp → Value) → World → Prop) (s : Nat) (FI : World → Prop) (hm : P.follows .mixedOrders = true) (hc : okB l a0.tmps.size = true) (h0 : G w0.drew) (hI0 : FI w0.drew)
    (loc : ∀ j o V V' w, l[j]? = some o → V o.dst = V' o.dst → (∀ k ok, waits o k = true → l[k]? = some ok → V ok.dst = V' ok.dst) → F j V w → F j V' w)
    (step : ∀ i o, l[i]? = some o → ∀ (a : Act) (w : World), G w → (∀ d : Tmp, late l i d = true → a.tmps[d]?.getD undef = a0.tmps[d]?.getD undef) →
      (∀ k, waits o k = true → F k (valOf a) w) → ((s == i || (l[s]?.all fun oc => waits oc i)) = true → FI w) →
      ∀ K : Act → World → Prop, (∀ v, (∀ V' : Option Tmp → Value, V' o.dst = own1 o.dst v → (∀ k ok, waits o k = true → l[k]? = some ok → V' ok.dst = valOf a ok.dst) → F i V' w) → K (a.put o.dst v) w) →
        (∀ v w', G w' → (i ≠ s → FI w → FI w') → (∀ j V, i ≠ j → F j V w → F j V w') → (∀ V' : Option Tmp → Value, V' o.dst = own1 o.dst v → (∀ k ok, waits o k = true → l[k]? = some ok → V' ok.dst = valOf a ok.dst) → F i V' w') → K (a.put o.dst v) w') →
        if Region.wanted o (yielded l.toArray a.tmps) = true then Oper.wp P o a w K Q else K (a.put o.dst undef) w)
    (fin : ∀ (V : Option Tmp → Value) (w : World), G w → (∀ j o, l[j]? = some o → F j V w) → Q .normal (fillA a0 V l) w) : (Code.region id l.toArray true).wp P Q a0 w0 :=
  facts_region4 G (fun i W W' => (G W → G W') ∧ (i ≠ s → FI W → FI W') ∧ ∀ j V, i ≠ j → F j V W → F j V W') (fun _ => l.length) (fun _ _ => false) F (fun _ => s) (fun _ W => FI W) hm hc h0 (fun _ => hI0)
    (fun _ _ _ _ _ _ h => by cases h) (fun _ j V _ _ hne _ _ hR h => hR.2.2 j V hne h) (fun _ _ _ hR hG => hR.1 hG) (fun _ _ _ _ hne hR h => hR.2.1 (Ne.symm hne) h) loc
    (fun i o ho a w hG hoff hdep hI K hK => step i o ho a w hG hoff (fun k hk => hdep k hk (.inr (Nat.le_refl _))) (fun h => hI 0 h) K
      (fun v hF => hK v w ⟨fun q => q, fun _ q => q, fun _ _ _ h => h⟩ hF) (fun v w' hG' hI' hst hF => hK v w' ⟨fun _ => hG', hI', hst⟩ hF))
    (fun V w hG h => fin V w hG (fun j o ho => h j o ho (Nat.le_refl _)))

end Go.Proofs.Ytnmdkbeicggfhaa
