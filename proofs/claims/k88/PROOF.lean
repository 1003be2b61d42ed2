import PyProof.Rows.All
import Wide.All
import OpenK.AllK
import Wide.FinOn
import HandS.ForMost
import HandS.Style
import HandS.IsInst
import HandS.Replace
import HandS.Wide
import HandS.Codes
import HandS.Walk
import HandS.DictComp
import HandS.Conv
import HandS.Nested
import HandS.EndTab
import PyProof.ListStr
import PyProof.StrOps2
import HandS.FStr
import HandS.FStrTup
import HandS.More
import HandS.Set
import HandS.SetBool
import HandS.SetKeys
import HandS.SetTxt0
import HandS.Strs
import HandS.Style
import KE.GoesMore
import KE.KRevSl
import PyProof.CollectStr
import PyProof.EnumMake
import PyProof.Rows.SetFrom
import PyProof.Rows.SortShellAny
import PyProof.SliceStr2
import PySem.Challenge.RW_likehands_k88_places_of_steps
set_option Elab.async false
set_option linter.all false
set_option maxRecDepth 100000
set_option maxHeartbeats 4000000
namespace LH
open PySem PySem.Spec PyProof.Rows L2
/-! ### list(text) -/
section
variable {X : Cx}
def sgns (z : Str) : List V := z.cps.toList.map fun c => V.str ⟨#[c]⟩
theorem sgns_len (z : Str) : (sgns z).length = z.length := by
  unfold sgns
  rw [List.length_map, Array.length_toList]
  rfl
theorem vals_by : ∀ {xs : List V} {us : List Value}, xs.length = us.length → (∀ (j : Nat) (x : V) (u : Value), xs[j]? = some x → us[j]? = some u → RelV x u) → Vals xs us
  | [], [], _, _ => .nil
  | [], _ :: _, h, _ => by cases h
  | _ :: _, [], h, _ => by cases h
  | x :: xs, u :: us, h, q => .cons (q 0 x u rfl rfl) (vals_by (Nat.succ.inj h) fun j y v a b => q (j + 1) y v a b)
theorem vals_sgns {z : Str} {acc : Array Value} (h : ItemsOf (SignAt z) acc z.cps.size) : Vals (sgns z) acc.toList := by
  have hn : acc.size = z.cps.size := h.1
  refine vals_by ?_ fun j x u a b => ?_
  · rw [sgns_len, Array.length_toList, hn]
    rfl
  · rw [Array.getElem?_toList] at b
    obtain ⟨c, t, e1, e2⟩ := h.2 j u b
    unfold sgns at a
    rw [List.getElem?_map, Array.getElem?_toList, e1] at a
    cases a
    subst e2
    exact ⟨_, rfl⟩
theorem call_listS (hc : X.calm = true) : CallR X (.type "list") (fun xs H Q => ∃ z : Str, xs = [.str z] ∧ z.length ≤ sizeLine ∧ ∀ p, H p = none → Q (.ref p) (upd H p (.lst (sgns z)))) := by
  intro pins s σ H xs us Q I r h
  obtain ⟨z, rfl, hz, q⟩ := h
  obtain ⟨u, rfl, rx⟩ := vals1 r
  obtain ⟨t, rfl⟩ := rx
  refine PySem.call_list_str (I.ok.hd hc) z t (fun h' tk acc' c' kp e ha => ?_) hz
  exact ⟨.ref s.heap.objs.size, _, I.laid (t' := tk) kp (Nat.le_refl _) (show ObjOk X.prog X.w _ h' _ (.lst (sgns z)) from ⟨by rw [sgns_len]; exact hz, acc'.toList, c', vals_sgns ha, e⟩), rfl, q _ (I.hok.fresh (Nat.le_refl _))⟩
/-! ### text * number -/
def repS (z : Str) (n : Nat) : Str := ⟨(List.replicate n z.cps.toList).flatten.toArray⟩
theorem foldl_repS (z : Array Nat) : ∀ (n : Nat) (a : Array Nat), (List.replicate n z).foldl (· ++ ·) a = a ++ (List.replicate n z.toList).flatten.toArray
  | 0, a => by simp
  | n + 1, a => by
    rw [List.replicate_succ, List.foldl_cons, foldl_repS z n (a ++ z), List.replicate_succ, List.flatten_cons]
    apply Array.ext'
    simp
theorem repS_eq (z : Str) (n : Nat) : (⟨(List.replicate n z.cps).foldl (· ++ ·) #[]⟩ : Str) = repS z n := by
  rw [foldl_repS]
  unfold repS
  simp
theorem repS_one (z : Str) : repS z 1 = z := by
  unfold repS
  simp
theorem repS_len (z : Str) (n : Nat) : (repS z n).length = n * z.length := by
  show (List.replicate n z.cps.toList).flatten.toArray.size = n * z.cps.size
  rw [List.size_toArray, List.length_flatten, List.map_replicate, List.sum_replicate_nat, Array.length_toList]
theorem op_repS : OpR X (binaryOp .Mult) (fun x y H Q => ∃ (z : Str) (n : Int), x = .str z ∧ y = .int n ∧ 1 ≤ n ∧ n ≤ 1000 ∧ z.length ≤ 1000 ∧ Q (.str (repS z n.toNat)) H) := by
  intro pins s σ H x y v u Q I rx ry h
  obtain ⟨z, n, rfl, rfl, h1, h2, hz, q⟩ := h
  obtain ⟨t, rfl⟩ := rx
  obtain ⟨t', rfl⟩ := ry
  have hlen : z.length * n.toNat ≤ 1000000 := Nat.le_trans (Nat.mul_le_mul hz (show n.toNat ≤ 1000 by omega)) (by decide)
  refine PySem.P.mul_str ?_ (fun _ _ => ?_) (fun _ _ => ?_) ?_
  · rw [decide_eq_false (show ¬ n < -(2 ^ 63 : Int) by omega), decide_eq_false (show ¬ n ≥ 2 ^ 63 by omega)]
    rfl
  · have : (1000 : Int) ≤ (2 ^ 63 - 1) / n := by
      rw [Int.le_ediv_iff_mul_le (by omega)]
      omega
    omega
  · exact decide_eq_false (by
      have e : (1000000 : Nat) ≤ sizeLine := by decide
      omega)
  · rw [if_neg (show ¬ n < 1 by omega)]
    by_cases hc : (n == 1 || z.length == 0) = true
    · rw [if_pos hc]
      have e : repS z n.toNat = z := by
        rw [Bool.or_eq_true] at hc
        rcases hc with hc | hc
        · have : n = 1 := eq_of_beq hc
          subst this
          exact repS_one z
        · have h0 : z.cps.size = 0 := eq_of_beq hc
          have : z.cps = #[] := Array.eq_empty_of_size_eq_zero h0
          unfold repS
          rw [this]
          obtain ⟨a⟩ := z
          have : a = #[] := this
          subst this
          congr 1
          apply Array.ext'
          simp
      rw [e] at q
      exact ⟨.str z, H, I, ⟨_, rfl⟩, q⟩
    · rw [if_neg hc, repS_eq]
      refine ⟨?_, .str _, H, I.tok _, ⟨_, rfl⟩, q⟩
      show (repS z n.toNat).length ≤ sizeLine
      rw [repS_len, Nat.mul_comm]
      exact Nat.le_trans hlen (by decide)
end
/-! ### one sign in a text: its first place -/
theorem idxOf_le {c : Nat} : ∀ {xs : List Nat} {i : Nat}, xs[i]? = some c → xs.idxOf c ≤ i
  | [], i, h => by simp at h
  | x :: xs, i, h => by
    rw [List.idxOf_cons]
    by_cases e : x = c
    · subst e
      simp
    · cases i with
      | zero =>
        simp at h
        exact absurd h e
      | succ i =>
        have := idxOf_le (xs := xs) (i := i) (by simpa using h)
        rw [show (x == c) = false from beq_eq_false_iff_ne.mpr e]
        show xs.idxOf c + 1 ≤ i + 1
        omega
theorem occ_sign {z : Str} {c : Nat} (h : c ∈ z.cps.toList) : ∃ r, Builtin.Str.occurrences z ⟨#[c]⟩ 0 z.length 1 = z.cps.toList.idxOf c :: r := by
  have key : ∀ i, StrLaws.At z ⟨#[c]⟩ z.length i ↔ z.cps.toList[i]? = some c := fun i => StrLaws.subAt_one z c i
  have hi : z.cps.toList.idxOf c < z.cps.toList.length := List.idxOf_lt_length_iff.mpr h
  have e0 : z.cps.toList[z.cps.toList.idxOf c]? = some c := by
    rw [List.getElem?_eq_getElem hi, List.getElem_idxOf]
  rcases StrLaws.occ_head z ⟨#[c]⟩ 1 (Nat.le_refl _) with ⟨_, hn⟩ | ⟨i, r, e, ha, hn⟩
  · exact absurd ((key _).mpr e0) (hn _)
  · refine ⟨r, ?_⟩
    rw [e]
    congr 1
    have a1 : ¬ z.cps.toList.idxOf c < i := fun q => hn _ q ((key _).mpr e0)
    have a2 := idxOf_le ((key i).mp ha)
    omega
theorem find_sign {z : Str} {c : Nat} (h : c ∈ z.cps.toList) : Txt.find z ⟨#[c]⟩ = (z.cps.toList.idxOf c : Nat) := by
  obtain ⟨r, e⟩ := occ_sign h
  unfold Txt.find
  rw [e]
/-! ### texts of signs -/
abbrev sg (c : Nat) : Str := ⟨#[c]⟩
abbrev vs_ (cs : List Nat) : List V := cs.map fun c => V.str (sg c)
theorem join_sg : ∀ cs : List Nat, Txt.join ⟨#[]⟩ (cs.map sg) = ⟨cs.toArray⟩ := fun cs => by
  rw [TL.join_eq]
  induction cs with
  | nil => rfl
  | cons c r ih =>
    cases r with
    | nil => rfl
    | cons d r =>
      show sg c ++ ⟨#[]⟩ ++ Str.join ⟨#[]⟩ ((d :: r).map sg) = _
      rw [ih]
      show (⟨(#[c] ++ #[]) ++ (d :: r).toArray⟩ : Str) = ⟨(c :: d :: r).toArray⟩
      congr 1
      apply Array.ext'
      simp
theorem risingS_sg : ∀ (cs : List Nat) (c : Nat), risingS (sg c) (cs.map sg) = true → (c :: cs).Pairwise (· ≤ ·)
  | [], c, _ => by simp
  | d :: r, c, h => by
    have h : (!ltCps [d] [c] && risingS (sg d) (r.map sg)) = true := h
    rw [Bool.and_eq_true] at h
    have ih := risingS_sg r d h.2
    have hcd : c ≤ d := by
      have := h.1
      simp [ltCps] at this
      exact this
    refine List.Pairwise.cons (fun x hx => ?_) ih
    rcases List.mem_cons.mp hx with rfl | hx
    · exact hcd
    · exact Nat.le_trans hcd (List.rel_of_pairwise_cons ih hx)
theorem sortedS_sg {cs : List Nat} (h : sortedS (cs.map sg) = true) : cs.Pairwise (· ≤ ·) := by
  cases cs with
  | nil => simp
  | cons c r => exact risingS_sg r c h
/-- what a sort of one-sign texts gives -/
theorem perm_sg {cs : List Nat} {ys : List Str} (h : ys.Perm (cs.map sg)) : ∃ ds : List Nat, ys = ds.map sg ∧ ds.Perm cs := by
  let f : Str → Nat := fun z => z.cps.getD 0 0
  have hm := h.map f
  rw [List.map_map, show f ∘ sg = id from rfl, List.map_id] at hm
  refine ⟨ys.map f, ?_, hm⟩
  rw [List.map_map]
  have : ∀ y ∈ ys, (sg ∘ f) y = y := fun y hy => by
    obtain ⟨c, _, rfl⟩ := List.mem_map.mp (h.mem_iff.mp hy)
    rfl
  conv => lhs; rw [← List.map_id ys]
  exact List.map_congr_left fun y hy => (this y hy).symm
structure IsLet (z : Str) : Prop where
  one : 1 ≤ z.length
  five : z.length ≤ 5
  rise : z.cps.toList.Pairwise (· < ·)
  small : ∀ c ∈ z.cps.toList, 97 ≤ c ∧ c ≤ 122
theorem rise_of {cs : List Nat} (h : cs.Pairwise (· ≤ ·)) (n : cs.Nodup) : cs.Pairwise (· < ·) := by
  have := List.Pairwise.and h n
  exact this.imp fun ⟨a, b⟩ => Nat.lt_of_le_of_ne a b
theorem mem_az {c : Nat} (h : c ∈ (List.range 26).map (97 + ·)) : 97 ≤ c ∧ c ≤ 122 := by
  obtain ⟨k, hk, rfl⟩ := List.mem_map.mp h
  have := List.mem_range.mp hk
  omega
theorem cutV_map {f : Nat → V} (cs : List Nat) (lo hi : Option Int) : cutV (cs.map f) lo hi = ((cs.drop (HT.sIx cs.length 0 lo)).take (HT.sIx cs.length cs.length hi - HT.sIx cs.length 0 lo)).map f := by
  unfold cutV
  rw [List.length_map, List.map_take, List.map_drop]
theorem cut_from (cs : List Nat) (g : Nat) : (cs.drop (HT.sIx cs.length 0 (some (g : Int)))).take (HT.sIx cs.length cs.length none - HT.sIx cs.length 0 (some (g : Int))) = cs.drop g := by
  rw [HT.sIx_nat, HT.sIx_none]
  by_cases h : g ≤ cs.length
  · rw [Nat.min_eq_left h, List.take_of_length_le (by rw [List.length_drop] <;> omega)]
  · rw [Nat.min_eq_right (by omega), List.drop_of_length_le (by omega), List.drop_of_length_le (by omega), List.take_nil]
theorem cut_to (cs : List Nat) (g : Nat) : (cs.drop (HT.sIx cs.length 0 none)).take (HT.sIx cs.length cs.length (some (g : Int)) - HT.sIx cs.length 0 none) = cs.take g := by
  rw [HT.sIx_nat, HT.sIx_none, Nat.sub_zero, List.drop_zero]
  by_cases h : g ≤ cs.length
  · rw [Nat.min_eq_left h]
  · rw [Nat.min_eq_right (by omega), List.take_of_length_le (Nat.le_refl _), List.take_of_length_le (by omega)]
theorem seqIx {i : Int} {n : Nat} (h0 : 0 ≤ i) (h1 : i < n) : seqIndex? i n = some i.toNat := by
  unfold seqIndex?
  have e : ¬ i < 0 := by omega
  simp [h0, h1, e]
theorem atI_of {xs : List V} {i : Int} {v : V} (h0 : 0 ≤ i) (h : xs[i.toNat]? = some v) : atI xs i = some v := at_of (j := i.toNat) (by omega) h
theorem erase_perm (ls : List Nat) (k : Nat) (h : k < ls.length) : ls.Perm (ls[k] :: ls.eraseIdx k) := by
  rw [List.eraseIdx_eq_take_drop_succ]
  conv => lhs; rw [← List.take_append_drop k ls, List.drop_eq_getElem_cons h]
  exact List.perm_middle
theorem sgns_az : sgns "abcdefghijklmnopqrstuvwxyz" = vs_ ((List.range 26).map (97 + ·)) := by decide +kernel
/-! ### the rules that speak of the written part, by a K of their own (so that they may stand within a comprehension) -/
section
variable {X : Cx} (K : PySem.W.Frag) (hK : X.K = K)
def rLenK : List V → Hp → VK → Prop := fun xs H Q => ∃ p ys, xs = [.ref p] ∧ (SqL K H p ys ∨ SqT K H p ys) ∧ Q (.int ys.length) H
def rListK : List V → Hp → VK → Prop := fun xs H Q => ∃ p ys, xs = [.ref p] ∧ (SqL K H p ys ∨ SqT K H p ys) ∧ ∀ l, H l = none → Q (.ref l) (upd H l (.lst ys))
def rTupleK : List V → Hp → VK → Prop := fun xs H Q => ∃ p ys, xs = [.ref p] ∧ ((SqL K H p ys ∧ ∀ l, H l = none → Q (.ref l) (upd H l (.tup ys))) ∨ (SqT K H p ys ∧ Q (.ref p) H))
def rJoinK : V → List V → Hp → VK → Prop := fun x xs H Q => ∃ a p, ∃ ys : List Str, x = .str a ∧ xs = [.ref p] ∧ (SqL K H p (ys.map V.str) ∨ SqT K H p (ys.map V.str)) ∧ (ys.map (·.length)).sum + ys.length * a.length ≤ 16777216 ∧ Q (.str (Txt.join a ys)) H
include hK
theorem ix_listK : IxR X (rIxL K) := by subst hK; exact ix_list
theorem ix_tupK : IxR X (rIxT K) := by subst hK; exact ix_tup
theorem sl_listK : SlR X (rSlL K) := by subst hK; exact sl_list
theorem sl_tupK : SlR X (rSlT K) := by subst hK; exact sl_tup
theorem op_in_seqK : OpR X (compareOp .In) (rIn K false) := by subst hK; exact op_in_seq
theorem op_notIn_seqK : OpR X (compareOp .NotIn) (rIn K true) := by subst hK; exact op_notIn_seq
theorem call_lenK : CallR X (.builtin "len") (rLenK K) := by subst hK; exact call_len_seq
theorem call_listK : CallR X (.type "list") (rListK K) := by subst hK; exact call_list_of
theorem call_tupleK : CallR X (.type "tuple") (rTupleK K) := by subst hK; exact call_tuple_of
theorem cr_sumK (hc : X.calm = true) : CallR X (.builtin "sum") (rSum K) := by subst hK; exact cr_sum hc
theorem cr_anyK (hc : X.calm = true) : CallR X (.builtin "any") (rAny K) := by subst hK; exact cr_any hc
theorem cr_allK (hc : X.calm = true) : CallR X (.builtin "all") (rAll K) := by subst hK; exact cr_all hc
theorem cr_sortedK : CallR X (.builtin "sorted") (rSorted K) := by subst hK; exact cr_sorted
theorem cr_sortedSK : CallR X (.builtin "sorted") (rSortedS K) := by subst hK; exact cr_sortedS
theorem call_isiK : CallR X (.builtin "isinstance") (rIsi K) := by subst hK; exact call_isi
theorem mt_joinK : MtR X "str.join" (rJoinK K) := by subst hK; exact mt_join
theorem pi_listK {tg l : Expr} {tl : TE} (hl : PE X l tl) : PI X tg l (iList K tl) := by subst hK; exact pi_list hl
theorem pi_tupK {tg l : Expr} {tl : TE} (hl : PE X l tl) : PI X tg l (iTup K tl) := by subst hK; exact pi_tup hl
theorem pe_revLK {e : Expr} {te : TE} {k : Nat} {p1 p2 p3 pos : Pos} (he : PE X e te) : PE X (.Subscript e (.Slice none none (some (.UnaryOp .USub (.Constant (.int 1) k p1) p2)) p3) pos) (tRevL K te) := by subst hK; exact pe_revL he
theorem pg_tupK {pos : Pos} {es : List Expr} {k : Nat} {t : TGs} {n : Nat} (hc : X.calm = true) (h : PGs X es t) (hn : (assignEach es X.env).length = n := by rfl) (hst : (assignEach es X.env).findIdx? (·.1) = none := by rfl) : PG X (.Tuple es k pos) (gTup K n t) := by subst hK; exact pg_tup hc h hn hst
theorem pe_bm0K {o : Expr} {to : TE} {name : Str} {ap cp : Pos} {T id : String} {r : V → List V → Hp → VK → Prop} (pa : PlainAttrs T) (sl : Slot T name id) (ty : typeOf (.builtin id) = pure (.type "method_descriptor")) (hm : MtR X id r) (ho : PE X o to) (h1 : attributeBase o name X.env (eval o X.env) = eval o X.env := by rfl) (h2 : (ap.endLine == cp.line) = true := by rfl) : PE X (.Call (.Attribute o name ap) [] [] cp) (tBM0 K T r to) := by subst hK; exact pe_bm0 pa sl ty hm ho h1 h2
theorem pe_bmK {o e : Expr} {es : List Expr} {to : TE} {t : TA} {name : Str} {ap cp : Pos} {T id : String} {r : V → List V → Hp → VK → Prop} (pa : PlainAttrs T) (sl : Slot T name id) (ty : typeOf (.builtin id) = pure (.type "method_descriptor")) (hm : MtR X id r) (ho : PE X o to) (ha : PA X (e :: es) t) (h1 : attributeBase o name X.env (eval o X.env) = eval o X.env := by rfl) (h2 : ((backTo cp (starEach (e :: es) X.env)).all (fun x => !x.1) && (backToKw cp (keywordEach [] X.env)).all (fun x => x.1.isSome) && decide ((e :: es).length + ([] : List Keyword).length + (if ([] : List Keyword).isEmpty then 0 else 1) < 30)) = true := by rfl) (h3 : (ap.endLine == cp.line) = true := by rfl) (h4 : starEach (e :: es) X.env = (false, eval e X.env) :: starEach es X.env := by rfl) (h5 : (backTo cp (starEach es X.env)).any (·.1) = false := by rfl) : PE X (.Call (.Attribute o name ap) (e :: es) [] cp) (tBM K T r to t) := by subst hK; exact pe_bm pa sl ty hm ho ha h1 h2 h3 h4 h5
end
/-- a comprehension's turn without a test -/
theorem lcyes {σ : L2.St} {H : Hp} {A B : Hp → Prop} (h : A H) : tYes σ H (fun b H3 => if b = true then A H3 else B H3) := by
  show (if true = true then A H else B H)
  rw [if_pos rfl]
  exact h
theorem vs_snoc (ys : List Nat) (c : Nat) : vs_ ys ++ [V.str (sg c)] = vs_ (ys ++ [c]) := by
  show _ = List.map _ (ys ++ [c])
  rw [List.map_append]
  rfl
theorem vs_erase : ∀ (ls : List Nat) (k : Nat), (vs_ ls).eraseIdx k = vs_ (ls.eraseIdx k)
  | [], _ => rfl
  | _ :: _, 0 => rfl
  | c :: r, k + 1 => by
    show V.str (sg c) :: (vs_ r).eraseIdx k = V.str (sg c) :: vs_ (r.eraseIdx k)
    rw [vs_erase r k]
end LH

namespace LH
open PySem PySem.Spec PyProof.Rows L2
/-! ### sets of texts: set(list), sorted(set) -/
/-- at a stands a set whose members are just the texts l, each once -/
def TSet (P : Program) (w : World) (a : Addr) (l : List Str) (h : Heap) : Prop :=
  l.Nodup ∧ ∃ D : Froz.SD, h.get? a = some (Froz.sObj "set" D) ∧ Froz.TxOk P w D l ∧ Ris D.2.2.place.toList ∧ (w.params.followText "set-order" = true ∨ D.2.2.led = true)
theorem TSet.at {P : Program} {w : World} {a : Addr} {l : List Str} {h h' : Heap} (T : TSet P w a l h) (k : ∀ o, h.get? a = some o → h'.get? a = some o) : TSet P w a l h' :=
  let ⟨n, D, e, r⟩ := T
  ⟨n, D, k _ e, r⟩
theorem tx_ris (x : Int) (v : Value) (D : Froz.SD) (r : Ris D.2.2.place.toList) : Ris (Froz.addTx x v D).2.2.place.toList ∧ (Froz.addTx x v D).2.2.led = D.2.2.led := by
  have r1 := layNew_ris D.2.2 D.1 x v r
  have l1 := layNew_led D.2.2 D.1 x v
  unfold Froz.addTx
  generalize layNew D.2.2 D.1 x v = Z at r1 l1 ⊢
  obtain ⟨es1, t1, wd, gv⟩ := Z
  dsimp only at r1 l1 ⊢
  have r2 : Ris (if t1.plain = true then { t1 with plain := false } else t1 : SetTable).place.toList ∧ (if t1.plain = true then { t1 with plain := false } else t1 : SetTable).led = D.2.2.led := by
    split
    · exact ⟨r1, l1⟩
    · exact ⟨r1, l1⟩
  generalize (if t1.plain = true then { t1 with plain := false } else t1 : SetTable) = t2 at r2 ⊢
  unfold Froz.tailTx
  split
  · exact ⟨relayAll_ris _ _ _, (relayAll_led _ _ _).trans r2.2⟩
  · exact r2
section
variable {P : Program} {w : World} {A : Around} {E : Value → Shared → Prop} {s : Shared}
/-- the add of a text that is in -/
theorem tx_old {a : Addr} {T : String} {D : Froz.SD} {l : List Str} {k : Str} {u : Tok} {Q : Bool → Shared → Prop} (ho : s.heap.get? a = some (Froz.sObj T D)) (F : Froz.TxOk P w D l) (hk : k ∈ l) (hb : l.length < scanBound) (h : Q false s) :
    wpAny (model P w) A (setAddHashed a (.str k u) (hashStr w k)) Q E s := by
  have hkey : (PySem.strKind P w).is k (.str k u) = true := Froz.is_str k u
  have hd : (Froz.sObj T D).data = .set D.1 D.2.1 D.2.2 := rfl
  have hsz : D.1.size < scanBound := by rw [F.sz]; exact hb
  obtain ⟨e, he, hm⟩ := (F.mem k).mp hk
  unfold setAddHashed setAddHashedIn
  refine wpAny_holding (wpAny_bind (wpAny_setState_of ho hd F.fit ?_))
  dsimp only
  rw [byScan_of (knd := PySem.strKind P w) rfl hsz F.el]
  simp only [↓reduceIte]
  unfold setAddByScan
  refine wpAny_bind (wpAny_bind (wpAny_rule (wpAny_bind (wpAny_setScan_of (knd := PySem.strKind P w) (k := k) hkey ho hd F.fit F.el ?_))))
  cases hf : List.findIdx? (fun e => (PySem.strKind P w).is k e.2) D.1.toList with
  | none =>
    have c := List.findIdx?_eq_none_iff.mp hf e he
    rw [hm] at c
    cases c
  | some j => exact wpAny_pure (wpAny_pure h)
/-- the members behind one more -/
def tAdd (l : List Str) (k : Str) : List Str := if k ∈ l then l else k :: l
theorem mem_tAdd {l : List Str} {k x : Str} : x ∈ tAdd l k ↔ x ∈ l ∨ x = k := by
  unfold tAdd
  split
  · rename_i h
    exact ⟨.inl, fun z => z.elim id fun e => e ▸ h⟩
  · rw [List.mem_cons]
    exact Or.comm
theorem tAdd_len (l : List Str) (k : Str) : (tAdd l k).length ≤ l.length + 1 := by
  unfold tAdd
  split
  · omega
  · exact Nat.le_refl _
theorem tx_add {a : Addr} {l : List Str} {k : Str} {u : Tok} {Q : Bool → Shared → Prop} (T : TSet P w a l s.heap) (hb : l.length + 1 < scanBound)
    (h : ∀ (b : Bool) (h' : Heap) (tk : Nat), s.toks ≤ tk → TSet P w a (tAdd l k) h' → (∀ c o, c ≠ a → s.heap.get? c = some o → h'.get? c = some o) → Q b { s with heap := h', toks := tk }) : wpAny (model P w) A (setAdd a (.str k u)) Q E s := by
  obtain ⟨nd, D, ho, F, r, hl⟩ := T
  unfold setAdd
  refine wpAny_holding (wpAny_bind ((PySem.strKind P w).pyHash (k := k) (Froz.is_str _ _) ?_))
  by_cases hk : k ∈ l
  · have e : tAdd l k = l := if_pos hk
    refine tx_old (s := { s with toks := s.toks + 1 }) (l := l) (D := D) ho F hk (by omega) ?_
    exact h false s.heap (s.toks + 1) (Nat.le_succ _) (by rw [e]; exact ⟨nd, D, ho, F, r, hl⟩) fun _ _ _ q => q
  · have e : tAdd l k = k :: l := if_neg hk
    refine Froz.add_x (s := { s with toks := s.toks + 1 }) (l := l) (D := D) ho F hk hb ?_
    obtain ⟨r1, l1⟩ := tx_ris (hashStr w k) (.str k u) D r
    refine h true _ (s.toks + 1) (Nat.le_succ _) ?_ fun c o hc q => Heap.get?_update_of_ne _ (Ne.symm hc) q
    rw [e]
    exact ⟨List.nodup_cons.mpr ⟨hk, nd⟩, _, Froz.get_upd _ ho rfl, Froz.add_ok u F, r1, by rw [l1]; exact hl⟩
end
/-- the members, when the texts were put in one by one -/
def tAll (xs : List Str) : List Str := xs.foldl tAdd []
theorem mem_foldl_tAdd {x : Str} : ∀ (xs l : List Str), x ∈ xs.foldl tAdd l ↔ x ∈ l ∨ x ∈ xs
  | [], l => by simp
  | k :: r, l => by
    rw [List.foldl_cons, mem_foldl_tAdd r, mem_tAdd, List.mem_cons]
    constructor
    · rintro ((q | q) | q)
      · exact .inl q
      · exact .inr (.inl q)
      · exact .inr (.inr q)
    · rintro (q | q | q)
      · exact .inl (.inl q)
      · exact .inl (.inr q)
      · exact .inr q
theorem mem_tAll {x : Str} {xs : List Str} : x ∈ tAll xs ↔ x ∈ xs := by
  unfold tAll
  rw [mem_foldl_tAdd]
  simp
theorem len_foldl_tAdd : ∀ (xs l : List Str), (xs.foldl tAdd l).length ≤ l.length + xs.length
  | [], l => by simp
  | k :: r, l => by
    have a := len_foldl_tAdd r (tAdd l k)
    have b := tAdd_len l k
    rw [List.foldl_cons, List.length_cons]
    omega
theorem tAll_len (xs : List Str) : (tAll xs).length ≤ xs.length := by
  have := len_foldl_tAdd xs []
  rw [List.length_nil, Nat.zero_add] at this
  exact this
theorem tAll_snoc (xs : List Str) (k : Str) : tAll (xs ++ [k]) = tAdd (tAll xs) k := by
  unfold tAll
  rw [List.foldl_append]
  rfl
section
variable {P : Program} {w : World} {A : Around} {R : Result → Shared → Prop} {I : Addr} {fp wr : List Addr} {G : Array GenState → Array GenState → Prop} {n : Nat} {Pv : Nat → Value → Prop} {St : Nat → Shared → Prop}
/-- the loop that puts what is walked into a set of texts -/
theorem tx_loop (W : WalksS P w A.in1 I fp wr G n Pv St) (S : Addr) (hS : S ∉ fp) (xs : List Str) (hn : xs.length = n) (hb : n + 1 < scanBound) (hv : ∀ i v, Pv i v → ∃ x t, xs[i]? = some x ∧ v = .str x t) :
    ∀ (k i : Nat) (s : Shared), n - i = k → i ≤ n → St i s → TSet P w S (tAll (xs.take i)) s.heap → (∀ s', Moved (S :: wr) G s s' → TSet P w S (tAll xs) s'.heap → R (.ok (.ret .none)) s') →
      codeAny (model P w) A (.builtin "set.update.loop" ⟨[.ref S, .ref I], []⟩) R s := by
  have hw : S ∉ wr := fun z => hS (W.sub _ z)
  have up : ∀ b ∈ wr, b ∈ S :: wr := fun b z => List.mem_cons_of_mem _ z
  intro k
  induction k with
  | zero =>
    intro i s hk hi st T hR
    obtain rfl : i = n := by omega
    rw [List.take_of_length_le (Nat.le_of_eq hn)] at T
    refine codeAny_builtin PyProof.Rows.F.entry_set_update_loop ?_
    rw [Around.under_plainId PyProof.Rows.F.plain_set_update_loop _]
    show wpAny _ A.in1 (pyNext (.ref I) >>= _) _ _ s
    refine wpAny_bind (W.done s _ _ st fun s' m => ?_)
    exact wpAny_pure (hR s' (m.mono up) (T.at fun o q => m.heap S o hw q))
  | succ k ih =>
    intro i s hk hi st T hR
    have lt : i < n := by omega
    refine codeAny_builtin PyProof.Rows.F.entry_set_update_loop ?_
    rw [Around.under_plainId PyProof.Rows.F.plain_set_update_loop _]
    show wpAny _ A.in1 (pyNext (.ref I) >>= _) _ _ s
    refine wpAny_bind (W.item i s _ _ lt st fun v s1 hP st1 m1 => ?_)
    obtain ⟨x, t, ex, rfl⟩ := hv i v hP
    have T1 : TSet P w S (tAll (xs.take i)) s1.heap := T.at fun o q => m1.heap S o hw q
    have room : (tAll (xs.take i)).length + 1 < scanBound := by
      have a := tAll_len (xs.take i)
      have b := List.length_take_le i xs
      omega
    show wpAny _ A.in1 (holding [Value.str x t] (setAdd S (.str x t)) >>= _) _ _ s1
    refine wpAny_bind (wpAny_holding (tx_add T1 room fun b h2 tk htk T2 k2 => ?_))
    have e : tAll (xs.take (i + 1)) = tAdd (tAll (xs.take i)) x := by
      rw [List.take_add_one, ex]
      exact tAll_snoc _ _
    rw [← e] at T2
    refine wpAny_pure ⟨plainId_quiet PyProof.Rows.F.plain_set_update_loop _, ih (i + 1) _ (by omega) lt (W.frame _ s1 _ _ st1 htk fun c hc o q => k2 c o (fun z => hS (z ▸ hc)) q) T2 fun s3 m3 T3 => ?_⟩
    exact hR s3 (Moved.trans W.gtrans ((m1.mono up).then_heap htk fun c o hc q => k2 c o (fun z => hc (z ▸ List.mem_cons_self)) q) m3) T3
end
end LH

namespace LH
open PySem PySem.Spec PyProof.Rows L2
/-- as many and the same members, of which one list has none twice -/
theorem perm_sub : ∀ (l m : List Str), l.Nodup → m.length = l.length → (∀ x ∈ l, x ∈ m) → m.Perm l
  | [], m, _, h, _ => by rw [List.length_eq_zero_iff.mp h]
  | x :: r, m, nd, h, hs => by
    obtain ⟨n1, n2⟩ := List.nodup_cons.mp nd
    have hx := hs x List.mem_cons_self
    refine (List.perm_cons_erase hx).trans (List.Perm.cons x (perm_sub r (m.erase x) n2 ?_ fun y hy => ?_))
    · rw [List.length_erase_of_mem hx, h]
      rfl
    · have hne : y ≠ x := fun e => n1 (e ▸ hy)
      exact (List.mem_erase_of_ne hne).mpr (hs y (List.mem_cons_of_mem _ hy))
theorem TSet.perm {l m : List Str} (nd : l.Nodup) (hl : m.length = l.length) (hm : ∀ x, x ∈ l ↔ x ∈ m) : m.Perm l := perm_sub l m nd hl fun x hx => (hm x).mp hx
/-- a new set -/
abbrev set0 (w : World) : Obj := { cls := .type "set", dict := none, data := .set #[] 0 (.fresh 0 0 (!w.params.followText "set-order")) }
section
variable {P : Program} {w : World} {A : Around} {E : Value → Shared → Prop} {s : Shared}
theorem set_made (a : Value) {Q₁ : Value → Shared → Prop} (h : Q₁ (.ref s.heap.objs.size) { s with heap := s.heap.push (set0 w) }) :
    codeAny (model P w) A (.call (.builtin "set.__new__") ⟨[.type "set", a], []⟩) (wants Q₁ E) s := by
  refine codeAny_of_tree ?_
  show wpAny _ A.in1 (checkBuiltinCall "set.__new__" ⟨[.type "set", a], []⟩ >>= fun _ => again (.builtin "set.__new__" ⟨[.type "set", a], []⟩)) _ _ s
  refine wpAny_bind (wpAny_of_eq (PySem.F.newCall_set_1 a) (wpAny_pure ⟨plainId_quiet PySem.F.plain_set_new _, codeAny_builtin PySem.F.entry_set_new ?_⟩))
  rw [Around.under_plainId PySem.F.plain_set_new _]
  unfold Builtin.«set.__new__» Builtin.Frozenset.newClass
  have sb := sub_set_self
  obtain ⟨hp, g, d, tk, os⟩ := s
  dsimp only
  wp_walk
  refine wpAny_askSetting (wpAny_pure ?_)
  dsimp only
  simp only [newObj]
  exact wpAny_bind (wpAny_alloc (wpAny_pure (wpAny_pure h)))
theorem tset_new {h h' : Heap} (e : h'.get? h.objs.size = some (set0 w)) : TSet P w h.objs.size [] h' :=
  ⟨List.nodup_nil, (#[], 0, .fresh 0 0 (!w.params.followText "set-order")), e, Froz.TxOk.nil (by rfl), List.Pairwise.nil, by
    show _ ∨ (!w.params.followText "set-order") = true
    cases w.params.followText "set-order"
    · exact .inr rfl
    · exact .inl rfl⟩
set_option maxHeartbeats 4000000 in
/-- set(xs) of a list of texts -/
theorem call_setT {l : Addr} {items : Array Value} {xs : List Str} {Q : Value → Shared → Prop} (hh : A.handled = none) (hl : s.heap.IsList l items) (hi : StrsAre items.toList xs) (hb : items.size + 1 < scanBound)
    (h : ∀ (h' : Heap) (tk : Nat), TSet P w s.heap.objs.size (tAll xs) h' → (∀ b o, b < s.heap.objs.size → s.heap.get? b = some o → h'.get? b = some o) → Q (.ref s.heap.objs.size) { s with heap := h', toks := tk }) :
    wpAny (model P w) A (call (.type "set") [.ref l]) Q E s := by
  obtain ⟨c, tl, hmro⟩ := PySem.F.called_set.mro
  have hmade := PySem.F.called_set.made
  have hsub := PySem.F.called_set.sub
  refine wpAny_call (codeAny_of_tree ?_)
  show wpAny _ _ (callAny (.type "set") _) _ _ _
  refine wpAny_pure ⟨Code.quiet_builtin _ (by decide +kernel), codeAny_builtin PySem.F.entry_type_call ?_⟩
  rw [Around.under_plain (weight_type_call_type "set" [.ref l] []) rfl]
  have h1 := PySem.F.called_set.notType
  have h2 := PySem.F.called_set.canCreate
  have hct := PySem.F.typeCall_set_1 (.ref l)
  repeat (any_goals (first | assumption | wp_step))
  refine codeAny_mono (set_made (.ref l) (E := E) (Q₁ := fun obj s₁ => obj = .ref s.heap.objs.size ∧ s₁ = { s with heap := s.heap.push (set0 w) }) ⟨rfl, rfl⟩) fun r s₁ hr => ?_
  cases r with
  | error e => exact hr
  | ok fl =>
    cases fl with
    | ret obj =>
      obtain ⟨rfl, rfl⟩ := hr
      have hS : (s.heap.push (set0 w)).get? s.heap.objs.size = some (set0 w) := Heap.get?_push_size _ rfl
      have hT : Shared.TypeIs { s with heap := s.heap.push (set0 w) } (.ref s.heap.objs.size) "set" := ⟨_, hS, rfl⟩
      have hli := PySem.F.called_set.init.lookup
      have hbi := PySem.F.called_set.init.bind (.ref s.heap.objs.size)
      repeat (any_goals (first | assumption | wp_step))
      refine codeAny_mono (codeAny_call_builtin (R := wants (fun r s₂ => r = .none ∧ ∃ h' tk, s₂ = { s with heap := h', toks := tk } ∧ TSet P w s.heap.objs.size (tAll xs) h' ∧
          (∀ b o, b < s.heap.objs.size → s.heap.get? b = some o → h'.get? b = some o)) E) PySem.F.called_set.init.plain PySem.F.entry_set_init (check_set_init_1 hT ?_)) fun r₂ s₂ hr₂ => ?_
      · obtain ⟨ol, hol, hcl, nl, hdl⟩ := hl
        obtain ⟨ocls, odict, odata, oslots⟩ := ol
        simp only at hcl hdl
        subst hcl
        subst hdl
        have hol' : (s.heap.push (set0 w)).get? l = some { cls := .type "list", dict := odict, data := .seq items nl, slots := oslots } := Heap.get?_push_of_some _ hol
        have hsls := PySem.F.sub_list_set
        have hslf := PySem.F.sub_list_frozenset
        have hne : (Value.type "list" == Value.type "dict") = false := by decide
        have hl1 : (s.heap.push (set0 w)).IsList l items := ⟨_, hol', rfl, nl, rfl⟩
        unfold Builtin.«set.__init__» noKeywords Builtin.Frozenset.updateFrom
        generalize hPI : pyIter = PI
        wp_walk
        subst hPI
        refine wpAny_pyIter_list hl1 (wpAny_bind (wpAny_runValue ?_))
        have lS : l < s.heap.objs.size := Heap.lt_size hol
        have eS : (s.heap.push (set0 w)).objs.size = s.heap.objs.size + 1 := Heap.size_push ..
        have neI : l ≠ (s.heap.push (set0 w)).objs.size := by
          rw [eS]
          exact Nat.ne_of_lt (Nat.lt_succ_of_lt lS)
        have out : s.heap.objs.size ∉ [(s.heap.push (set0 w)).objs.size, l] := fun z => by
          rcases List.mem_cons.mp z with z | z
          · rw [eS] at z
            exact absurd z (Nat.ne_of_lt (Nat.lt_succ_self _))
          · exact absurd (List.mem_singleton.mp z) (Nat.ne_of_gt lS)
        have hsz : xs.length = items.size := by rw [← StrsAre.len_eq hi, Array.length_toList]
        have hv : ∀ (i : Nat) (v : Value), items[i]? = some v → ∃ x t, xs[i]? = some x ∧ v = .str x t := fun i v q => by
          have hil : i < xs.length := by
            rw [hsz]
            exact (Array.getElem?_eq_some_iff.mp q).1
          obtain ⟨t, e⟩ := SS.strs_at hi i v (by rw [Array.getElem?_toList]; exact q)
          refine ⟨_, t, ?_, e⟩
          rw [List.getD_eq_getElem?_getD, List.getElem?_eq_getElem hil]
          rfl
        refine tx_loop ((Walks.list (by show A.in1.in1.in1.handled = none; simp [hh]) _ l neI items).toS) s.heap.objs.size out xs hsz hb hv items.size 0 _ (by omega) (Nat.zero_le _) ⟨⟨_, Heap.get?_push_size _ rfl, rfl, rfl⟩, hl1.push _⟩ ?tx1 ?tx2
        case tx1 => exact tset_new (h := s.heap) (Heap.get?_push_of_some _ hS)
        case tx2 =>
          intro s' m T
          obtain ⟨h', g', d', tk', os'⟩ := s'
          obtain rfl : g' = s.gens := m.gens
          obtain rfl : d' = s.drawn := m.drawn
          obtain rfl : os' = s.os := m.os
          refine wpAny_pure (wpAny_pure ⟨rfl, h', tk', rfl, T, fun b o q e => ?_⟩)
          refine m.heap b o (fun z => ?_) (Heap.get?_push_of_some _ (Heap.get?_push_of_some _ e))
          rcases List.mem_cons.mp z with z | z
          · exact absurd z (Nat.ne_of_lt q)
          · have z := List.mem_singleton.mp z
            rw [eS] at z
            exact absurd z (Nat.ne_of_lt (Nat.lt_succ_of_lt q))
      · cases r₂ with
        | error e => exact hr₂
        | ok fl₂ =>
          cases fl₂ with
          | ret r =>
            obtain ⟨rfl, h', tk, rfl, T, hk⟩ := hr₂
            repeat (any_goals (first | assumption | wp_step))
            exact h _ _ T hk
          | _ => exact hr₂.elim
    | _ => exact hr.elim
/-- sorted(found) of a set of texts -/
theorem call_sortedT {a : Addr} {l : List Str} {Q : Value → Shared → Prop} (T : TSet P w a l s.heap) (hh : A.handled = none) (hb : l.length < scanBound)
    (hQ : ∀ s' p (out : Array Value) (c : Nat) (ys : List Str), (∀ b o, s.heap.get? b = some o → s'.heap.get? b = some o) → s'.gens = s.gens → s'.os = s.os → s.heap.objs.size ≤ p →
      s'.heap.get? p = some (seqObj "list" out c) → StrsAre out.toList ys → ys.Perm l → sortedS ys = true → Q (.ref p) s') :
    wpAny (model P w) A (call (.builtin "sorted") [.ref a]) Q E s := by
  obtain ⟨nd, D, ho, F, r, hl⟩ := T
  have hsz : D.1.size < scanBound := by rw [F.sz]; exact hb
  refine Calls.call_function_entry kind_sorted plain_sorted entry_sorted (args_sorted1 _) ?_
  unfold Builtin.«sorted»
  refine wpAny_bind (m := checkCount "sorted" 1 1 _) (wpAny_pure ?_)
  refine wpAny_bind (collect_set (A := A.in1) (es := D.1) (ep := D.2.1) (t := D.2.2) hh ⟨_, ho, rfl, rfl⟩ F.fit hsz r hl fun s1 vs k1 hz g1 o1 pm => ?_)
  have all : ∀ v ∈ vs, ∃ x t, v = Value.str x t := fun v hv => by
    obtain ⟨e, he, rfl⟩ := List.mem_map.mp (pm.mem_iff.mp hv)
    obtain ⟨⟨k, hk, _⟩, _⟩ := F.el e he
    have hk : Value.isStrOf k e.2 = true := hk
    cases q : e.2 with
    | str x t => exact ⟨x, t, rfl⟩
    | _ =>
      rw [q] at hk
      cases hk
  have hS : StrsAre vs (vs.map strOf) := strsAre_map vs all
  have hvl : vs.length ≤ sizeLine := by
    rw [pm.length_eq, List.length_map, Array.length_toList]
    exact fits_of_scanBound hsz
  refine wpAny_bind (wpAny_newList ?_ hvl)
  have hoL : (s1.heap.push (seqObj "list" vs.toArray 0)).get? s1.heap.objs.size = some (seqObj "list" vs.toArray 0) := Heap.get?_push_size _ rfl
  refine wpAny_bind (wpAny_holding (wpAny_call_entry slot_list_sort ⟨_, hoL, rfl⟩ entry_list_sort (list_sort_treeKAny strKind_oneLt hoL hS.keysOf (fun v₁ v₂ rest e => keyKind_strs (by rw [← e]; exact hS)) hvl fun st' hp hs => ⟨_, rfl, ?_⟩) (args_list_sort _)))
  obtain ⟨ys, a1, a2, a3⟩ := sorted_out_str hS hp hs
  obtain ⟨c, hc⟩ := sortedHeap_at (vs := vs) (out := (arrOf st').map (·.2)) hoL
  refine wpAny_pure ⟨_, rfl, hQ _ s1.heap.objs.size _ c ys (fun b u e => ?_) g1 o1 hz hc a1 (a2.trans ?_) a3⟩
  · have q := k1 b u e
    have hlt := Heap.lt_size q
    refine (sortedHeap_old (Nat.ne_of_lt hlt) ?_).trans (Heap.get?_push_of_some _ q)
    exact Nat.lt_of_lt_of_eq (Nat.lt_succ_of_lt hlt) (size_push' ..).symm
  · -- the texts of the entries are just l
    have p1 : (vs.map strOf).Perm (D.1.toList.map fun e => strOf e.2) := by
      have q := pm.map strOf
      rw [List.map_map] at q
      exact q
    have key : ∀ e ∈ D.1.toList, ∀ k : Str, (PySem.strKind P w).is k e.2 = true ↔ strOf e.2 = k := fun e he k => by
      obtain ⟨⟨k0, hk0, _⟩, _⟩ := F.el e he
      have e0 : strOf e.2 = k0 := by
        have hk0 : Value.isStrOf k0 e.2 = true := hk0
        cases q : e.2 with
        | str x t =>
          rw [q] at hk0
          have : (x == k0) = true := by simpa [Value.isStrOf] using hk0
          exact eq_of_beq this
        | _ =>
          rw [q] at hk0
          cases hk0
      constructor
      · intro hk
        rw [e0]
        exact (PySem.strKind P w).inj e.2 k0 k hk0 hk
      · intro hk
        rw [← hk, e0]
        exact hk0
    refine p1.trans (TSet.perm nd ?_ fun x => ?_)
    · rw [List.length_map, Array.length_toList]
      exact F.sz
    · rw [F.mem x, List.mem_map]
      constructor
      · rintro ⟨e, he, q⟩
        exact ⟨e, he, (key e he x).mp q⟩
      · rintro ⟨e, he, q⟩
        exact ⟨e, he, (key e he x).mpr q⟩
end
end LH

namespace LH
open PySem PySem.Spec PyProof.Rows L2
/-- an expression that changes nothing, by its value -/
def tPure (t : TE) : TE := fun σ H Q => ∃ v, t σ H (fun x H' => x = v ∧ H' = H) ∧ Q v H
theorem pe_pure {X : Cx} {e : Expr} {t : TE} (h : PE X e t) : PE X e (tPure t) := by
  refine ⟨fun pins s σ H Q I q => ?_⟩
  obtain ⟨v, h1, h2⟩ := q
  refine thn (h.run pins s σ H _ I h1) fun u s1 ⟨x, H1, I1, r, e1, e2⟩ => ?_
  subst e1
  subst e2
  exact ⟨x, H1, I1, r, h2⟩
/-! ### a new pair at each turn -/
def Itp (n : Nat) (xs ys : Nat → Option V) : It := ⟨fun i _ => i < n, YPair xs ys, fun i _ => i = n⟩
theorem walk_Itp {n : Nat} {xs ys : Nat → Option V} : Walk (Itp n xs ys) n (fun _ => True) (YPair xs ys) := ⟨fun _ _ h _ => h, fun _ _ => rfl, fun _ _ _ _ _ _ y => y⟩
/-- a walk that hands out pairs of its own, as a turn -/
theorem turn_T {P : Program} {w : World} {K : PySem.W.Frag} {elts : List Expr} {kk n : Nat} {tpos : Pos} {xs ys : Nat → Option V} {it : Addr} {fp wr : List Addr} {Pt : Nat → Array Value → Prop} {St : Nat → Heap → Prop} {Mid : Nat → Addr → Heap → Prop}
    (W : ∀ A : Around, A.handled = none → WalksT P w A it fp wr n Pt St Mid) (hit : it ∈ fp) (ob : ∀ i h, St i h → ∀ b ∈ fp, ∃ o, h.get? b = some o ∧ ∀ v, o.data ≠ .cell v)
    (hp : ∀ i vals, Pt i vals → ∃ x y u v, vals = #[u, v] ∧ xs i = some x ∧ ys i = some y ∧ RelV x u ∧ RelV y v)
    (sf : ∀ (A : Around) (i : Nat) (s : Shared) (Q : Value → Shared → Prop) (E : Value → Shared → Prop), St i s.heap → Q (.ref it) s → wpAny (model P w) A (pyIter (.ref it)) Q E s) :
    Turn P w K (.Tuple elts kk tpos) (Itp n xs ys) fp it St where
  mem := hit
  obj := ob
  keep := fun i h h' st k => (W {} rfl).frame i h h' st k
  item := by
    intro X hP hw hK hc i pins s σ H E I hf st hg
    subst hP hw hK
    have W0 := W X.A (I.ok.hd hc)
    refine W0.item i s _ _ hg st fun T vals h1 tk hv hT tup mid k1 => ?_
    obtain ⟨x, y, u, v, rfl, ex, ey, rx, ry⟩ := hp i vals hv
    refine ⟨_, rfl, W0.go elts kk tpos i T _ _ _ mid fun h2 st2 k2 => ?_⟩
    have tup2 : h2.IsTuple T #[u, v] := tup.at fun o q => k2 T o (W0.apart i T h1 mid) q
    have I1 : Inv X pins σ (upd H T (.tup [x, y])) { s with heap := h2, toks := tk } :=
      I.turnedNew (ch := wr) (fun b o hb q => k2 b o hb (k1 b o hb q)) (fun b hb => hf b (W0.sub b hb)) hT ⟨by show 2 ≤ sizeLine; decide, [u, v], .cons rx (.cons ry .nil), tup2⟩
    refine ⟨.ref T, _, I1, rfl, ⟨T, x, y, rfl, I.hok.fresh hT, rfl, ex, ey⟩, st2, fun b hb => ?_⟩
    obtain ⟨o, q, _⟩ := ob i s.heap st b hb
    rw [upd_ne (Nat.ne_of_lt (Nat.lt_of_lt_of_le (Heap.lt_size q) hT))]
    exact (hf b hb).1
  done := by
    intro X hP hw hK hc i pins s σ H E I hf st hg
    subst hP hw hK
    have W0 := W X.A (I.ok.hd hc)
    obtain rfl : i = n := hg
    exact W0.done s _ _ st fun h1 tk k1 => ⟨rfl, I.turnedL (ch := wr) (fun b o hb q => k1 b o hb q) fun b hb => hf b (W0.sub b hb)⟩
  self := sf
/-! ### enumerate(text) -/
def signAt (z : Str) (i : Nat) : Option V := (z.cps[i]?).map fun c => .str ⟨#[c]⟩
def iEnumS (ta : TA) : TI := fun σ H R => ta σ H fun vs H1 => ∃ z : Str, vs = [.str z] ∧ R (Itp z.cps.size (fun i => some (.int (i : Nat))) (signAt z)) H1
theorem pi_enumS {X : Cx} {e : Expr} {ta : TA} {p pos tpos : Pos} {elts : List Expr} {kk : Nat} (hg : Gl X "enumerate") (hm : X.mg "enumerate" = none) (ha : PA X [e] ta) (hs : starEach [e] X.env = [(false, eval e X.env)] := by rfl) :
    PI X (.Tuple elts kk tpos) (.Call (.Name "enumerate" p) [e] [] pos) (iEnumS ta) := by
  refine ⟨fun pins s σ H R I h => ?_⟩
  refine Call_ (ld_blt I hg hm boot_enumerate (PyProof.Rows.callWith_type1 (thn (ha.run pos pins s σ H _ I h) fun us s1 ⟨vs, H1, I1, r1, q1⟩ => ?_) hs rfl))
  obtain ⟨z, ex, q⟩ := q1
  subst ex
  obtain ⟨u, rfl, rx⟩ := vals1 r1
  obtain ⟨t, rfl⟩ := rx
  refine call_enumerate_str fun h1 he hi hsz k1 => wpAny_pyIter_enum he ?_
  have I2 : Inv X pins σ H1 { s1 with heap := h1 } := I1.kept (t' := s1.toks) k1
  have hne : s1.heap.objs.size + 1 ≠ s1.heap.objs.size := Nat.succ_ne_self _
  refine ⟨s1.heap.objs.size + 1, [s1.heap.objs.size + 1, s1.heap.objs.size], _, _, H1, rfl, I2,
    turn_T (St := fun i h => (∃ old, IsEnum h (s1.heap.objs.size + 1) s1.heap.objs.size i old) ∧ h.IsStrIter s1.heap.objs.size (strIterType z) z t i)
      (fun A hA => WalksT.enumerateD (Draws.text (A := A.in1) hA s1.heap.objs.size z t) (s1.heap.objs.size + 1) hne (by simp) (by simp)) (by simp) (fun i h st b hb => ?_) (fun i vals hv => ?_) (fun A i s Q E st hQ => ?_), ⟨⟨.none, he⟩, hi⟩, fun b hb => ?_, q⟩
  · obtain ⟨⟨old, e1⟩, ⟨o, e2, c2, d2⟩⟩ := st
    have e' : b = s1.heap.objs.size + 1 ∨ b = s1.heap.objs.size := by simpa using hb
    rcases e' with y | y
    · rw [y]
      exact ⟨_, e1, fun v q => nomatch q⟩
    · rw [y]
      exact ⟨o, e2, fun v q => by rw [d2] at q; cases q⟩
  · obtain ⟨t', x, ⟨c, u, hc, rfl⟩, rfl⟩ := hv
    refine ⟨.int (i : Nat), .str ⟨#[c]⟩, _, _, rfl, rfl, ?_, ⟨_, rfl⟩, ⟨_, rfl⟩⟩
    unfold signAt
    rw [hc]
    rfl
  · obtain ⟨⟨old, e1⟩, _⟩ := st
    exact wpAny_pyIter_enum e1 hQ
  · have e' : b = s1.heap.objs.size + 1 ∨ b = s1.heap.objs.size := by simpa using hb
    have hle : s1.heap.objs.size ≤ b := by
      rcases e' with y | y
      · rw [y]
        exact Nat.le_add_right _ _
      · rw [y]
        exact Nat.le_refl _
    exact I1.fpOk hle (I1.hok.fresh hle)
/-! ### the set rules -/
/-- the set of the texts l at a -/
def SetT (P : Program) (w : World) (a : Addr) (l : List Str) : HO := .ext (TSet P w a l)
section
variable {X : Cx}
theorem setT_new {P : Program} {w : World} {H : Hp} {h : Heap} {a : Addr} {l : List Str} (T : TSet P w a l h) : ObjOk P w H h a (SetT P w a l) := by
  have ⟨_, D, e, _⟩ := T
  exact ⟨T, ⟨_, e⟩, fun h1 h2 p k => p.at k⟩
/-- set(xs), texts; the set stays nowhere but here -/
def rSetL (P : Program) (w : World) (K : PySem.W.Frag) : List V → Hp → VK → Prop := fun xs H Q => ∃ (a : Addr) (ys : List Str), xs = [.ref a] ∧ SqL K H a (ys.map V.str) ∧ ys.length ≤ 4000 ∧ ∀ p, H p = none → Q (.ref p) (upd H p (SetT P w p (tAll ys)))
theorem cr_setL (hc : X.calm = true) : CallR X (.type "set") (rSetL X.prog X.w X.K) := by
  intro pins s σ H xs us Q I r h
  obtain ⟨a, ys, rfl, hs, hl, q⟩ := h
  obtain ⟨its, rv, pl, _⟩ := I.list hs
  rw [Vals.ref1 r]
  have hlen := rv.length
  rw [List.length_map] at hlen
  refine call_setT (I.ok.hd hc) pl.isList (by simpa using rv.strs) (by rw [List.size_toArray, ← hlen]; unfold scanBound; omega) fun h1 tk T k1 => ?_
  refine ⟨.ref s.heap.objs.size, _, I.laid (t' := tk) (fun b o e => k1 b o (Heap.lt_size e) e) (Nat.le_refl _) (setT_new T), rfl, q _ (I.hok.fresh (Nat.le_refl _))⟩
/-- sorted(found) -/
def rSortT (P : Program) (w : World) : List V → Hp → VK → Prop := fun xs H Q => ∃ (a : Addr) (l : List Str), xs = [.ref a] ∧ H a = some (SetT P w a l) ∧ l.length ≤ 4000 ∧ ∀ ys p, ys.Perm l → sortedS ys = true → H p = none → Q (.ref p) (upd H p (.lst (ys.map V.str)))
theorem cr_sortT (hc : X.calm = true) : CallR X (.builtin "sorted") (rSortT X.prog X.w) := by
  intro pins s σ H vs us Q I r h
  obtain ⟨a, l, rfl, ha, hl, q⟩ := h
  have T : TSet X.prog X.w a l s.heap := (I.hok a _ ha).1
  rw [Vals.ref1 r]
  refine call_sortedT T (I.ok.hd hc) (by unfold scanBound; omega) fun s' p out c ys k g o hp hg hi pm hs => ?_
  have hlen : (ys.map V.str).length ≤ sizeLine := by
    rw [List.length_map, pm.length_eq]
    exact Nat.le_trans hl (by decide)
  have hn : H p = none := I.hok.fresh hp
  have J : Inv X pins σ (upd H p (.lst (ys.map V.str))) { s with heap := s'.heap, gens := s'.gens, drawn := s'.drawn, toks := s'.toks } :=
    I.call (ch := []) (Un.laid k hp hn) (I.hok.laid k hp ⟨hlen, out.toList, c, vals_of_strs hi, hg⟩) (by rw [g]; exact I.bare) (fun _ z => nomatch z)
  have e : s' = { s with heap := s'.heap, gens := s'.gens, drawn := s'.drawn, toks := s'.toks } := by
    cases s'
    cases s
    cases o
    rfl
  rw [e]
  exact ⟨.ref p, _, J, rfl, q ys p pm hs hn⟩
end
section
variable {X : Cx} (P : Program) (w : World) (K : PySem.W.Frag) (hP : X.prog = P) (hw : X.w = w) (hK : X.K = K) (hc : X.calm = true)
include hP hw hc
theorem cr_sortTK : CallR X (.builtin "sorted") (rSortT P w) := by subst hP hw; exact cr_sortT hc
include hK
theorem cr_setLK : CallR X (.type "set") (rSetL P w K) := by subst hP hw hK; exact cr_setL hc
end
/-! ### what is sorted and has no text twice is told by its members -/
theorem sortedS_pw : ∀ {l : List Str}, sortedS l = true → l.Pairwise fun a b => ltCps b.cps.toList a.cps.toList = false := by
  have tr : ∀ a b c : List Nat, ltCps b a = false → ltCps c b = false → ltCps c a = false := fun a b c h1 h2 => by
    rw [ltCps_eq] at h1 h2 ⊢
    have h1 := of_decide_eq_false h1
    have h2 := of_decide_eq_false h2
    exact decide_eq_false fun h => h1 (Std.lt_of_le_of_lt (Std.not_lt.mp h2) h)
  have go : ∀ (l : List Str) (p : Str), risingS p l = true → (p :: l).Pairwise fun a b => ltCps b.cps.toList a.cps.toList = false := by
    intro l
    induction l with
    | nil => intro p _; exact List.pairwise_singleton _ _
    | cons x r ih =>
      intro p h
      have h : (!ltCps x.cps.toList p.cps.toList && risingS x r) = true := h
      rw [Bool.and_eq_true] at h
      have i := ih x h.2
      have h1 : ltCps x.cps.toList p.cps.toList = false := by simpa using h.1
      refine List.Pairwise.cons (fun y hy => ?_) i
      rcases List.mem_cons.mp hy with rfl | hy
      · exact h1
      · exact tr _ _ _ h1 (List.rel_of_pairwise_cons i hy)
  intro l h
  cases l with
  | nil => exact List.Pairwise.nil
  | cons x r => exact go r x h
theorem sorted_one {l m : List Str} (h1 : sortedS l = true) (h2 : sortedS m = true) (p : l.Perm m) : l = m := by
  refine List.Perm.eq_of_pairwise (le := fun a b => ltCps b.cps.toList a.cps.toList = false) (fun a b _ _ q1 q2 => ?_) (sortedS_pw h1) (sortedS_pw h2) p
  rw [ltCps_eq] at q1 q2
  have q1 := of_decide_eq_false q1
  have q2 := of_decide_eq_false q2
  have e : a.cps.toList = b.cps.toList := Std.le_antisymm (Std.not_lt.mp q1) (Std.not_lt.mp q2)
  obtain ⟨⟨a⟩⟩ := a
  obtain ⟨⟨b⟩⟩ := b
  have e : a = b := e
  rw [e]
end LH

namespace LH
open PySem PySem.Spec PyProof.Rows L2
/-! ### text[::-1] -/
def tRevS (te : TE) : TE := fun σ H Q => te σ H fun x H1 => ∃ z : Str, x = .str z ∧ z.length ≤ sizeLine ∧ Q (.str ⟨z.cps.toList.reverse.toArray⟩) H1
theorem rev_signs (z : Str) : (⟨((Builtin.Str.strSliceIndices none none (-1) z.length).filterMap (z.cps[·]?)).toArray⟩ : Str) = ⟨z.cps.toList.reverse.toArray⟩ := by
  congr 2
  have e : Builtin.Str.strSliceIndices none none (-1) z.length = (List.range z.length).reverse := by
    show sliceRange ((z.length : Int) - 1) (-1) (-1) = _
    rw [PySem.W.krv_sliceRange, PySem.W.krv_range]
  rw [e, List.filterMap_reverse]
  congr 1
  exact PySem.W.krv_all z.cps
theorem pe_revS {X : Cx} {e : Expr} {te : TE} {k : Nat} {p1 p2 p3 pos : Pos} (he : PE X e te) : PE X (.Subscript e (.Slice none none (some (.UnaryOp .USub (.Constant (.int 1) k p1) p2)) p3) pos) (tRevS te) := by
  refine ⟨fun pins s σ H Q I h => ?_⟩
  refine Subscript_ (thn (he.run pins s σ H _ I h) fun v s1 ⟨x, H1, I1, r1, q1⟩ => ?_)
  obtain ⟨z, ex, hz, q⟩ := q1
  subst ex
  obtain ⟨t, rfl⟩ := r1
  have hst : PO X (some (.UnaryOp .USub (.Constant (.int 1) k p1) p2)) (tPart (tUn (rU fun i => .int (-i)) (tC (.int 1)))) := po_some (pe_un un_neg pe_int)
  refine wpAny_Slice (thn (po_none.run pins s1 σ H1 (fun o H2 => o = none ∧ H2 = H1) I1 ⟨rfl, rfl⟩) fun vl s2 ⟨l, H2, I2, pl, el, e2⟩ => ?_)
  subst el e2
  refine thn (po_none.run pins s2 σ H2 (fun o H3 => o = none ∧ H3 = H2) I2 ⟨rfl, rfl⟩) fun vu s3 ⟨u, H3, I3, pu, eu, e3⟩ => ?_
  subst eu e3
  refine thn (hst.run pins s3 σ H3 (fun o H4 => o = some (-1) ∧ H4 = H3) I3 ⟨1, rfl, -1, rfl, rfl, rfl⟩) fun vs s4 ⟨o, H4, I4, ps, eo, e4⟩ => ?_
  subst eo e4
  have I5 : Inv X pins σ H4 { s4 with heap := s4.heap.push { cls := .type "slice", data := .fields #[vl, vu, vs] } } := I4.kept (t' := s4.toks) fun b ob q => Heap.get?_push_of_some _ q
  obtain ⟨l', rfl, hl'⟩ := IsPart.raw pl
  obtain ⟨u', rfl, hu'⟩ := IsPart.raw pu
  obtain ⟨st, rfl, hs'⟩ := IsPart.raw ps
  have el : l' = none := by cases l' <;> simp_all
  have eu : u' = none := by cases u' <;> simp_all
  subst el eu
  obtain ⟨c, d, rfl⟩ : ∃ c d, st = some (c, d) := by
    cases st with
    | none => simp at hs'
    | some p => exact ⟨p.1, p.2, rfl⟩
  have ec : (-1 : Int) = c := by simpa using hs'.symm
  subst ec
  refine tail_any (ops := [.str z t, .ref s4.heap.objs.size]) (typeIs_str _ _ _) F.slot_str_getitem.lookup ?_ (by with_unfolding_all rfl)
  refine wpAny_getItem_str_slice (l := none) (u := none) (st := some (-1, d)) ⟨_, Heap.get?_push_size _ rfl, rfl, rfl⟩ rfl ?_
  show Made.post (if ((-1 : Int) == 1 && (Builtin.Str.strSliceIndices none none (-1) z.length).length == z.length) = true then Made.val (.str z t)
    else Made.str ⟨((Builtin.Str.strSliceIndices none none (-1) z.length).filterMap (z.cps[·]?)).toArray⟩) (EP X pins σ Q) _
  rw [if_neg (by simp), rev_signs]
  refine ⟨?_, .str _, H4, I5.tok _, ⟨_, rfl⟩, q⟩
  show z.cps.toList.reverse.toArray.size ≤ sizeLine
  rw [List.size_toArray, List.length_reverse, Array.length_toList]
  exact hz
/-! ### sorted(text) -/
def rSortStr : List V → Hp → VK → Prop := fun xs H Q => ∃ z : Str, xs = [.str z] ∧ z.length ≤ 1000 ∧ ∀ ys p, ys.Perm (z.cps.toList.map fun c => (⟨#[c]⟩ : Str)) → sortedS ys = true → H p = none → Q (.ref p) (upd H p (.lst (ys.map V.str)))
theorem strs_signs {z : Str} {acc : Array Value} (h : ItemsOf (SignAt z) acc z.cps.size) : StrsAre acc.toList (z.cps.toList.map fun c => (⟨#[c]⟩ : Str)) := by
  have v := vals_sgns h
  have e : sgns z = (z.cps.toList.map fun c => (⟨#[c]⟩ : Str)).map V.str := by
    unfold sgns
    rw [List.map_map]
    rfl
  rw [e] at v
  exact v.strs
/-- the signs of a text, gathered; the heap does not shrink -/
theorem collect_signs {P : Program} {w : World} {A : Around} {E : Value → Shared → Prop} {s : Shared} {Q : List Value → Shared → Prop} (hh : A.handled = none) (x : Str) (t : Tok) (hn : x.cps.size ≤ sizeLine)
    (hQ : ∀ s' acc, (∀ b o, s.heap.get? b = some o → s'.heap.get? b = some o) → s.heap.objs.size ≤ s'.heap.objs.size → s'.gens = s.gens → s'.drawn = s.drawn → s'.os = s.os → ItemsOf (SignAt x) acc x.cps.size → Q acc.toList s') :
    wpAny (model P w) A (collect (.str x t)) Q E s := by
  unfold collect
  refine wpAny_bind (wpAny_runValue (codeAny_builtin F.entry_proto_collect ?_))
  rw [Around.under_plainId F.plain_proto_collect _]
  show wpAny _ A.in1 (newList [] >>= fun l => again (.builtin "list.__iadd__" ⟨[l, .str x t], []⟩)) _ _ s
  refine wpAny_bind (wpAny_newObj_type (wpAny_pure ⟨plainId_quiet F.plain_list_iadd _, codeAny_builtin F.entry_list_iadd ?_⟩))
  rw [Around.under_plainId F.plain_list_iadd _]
  show wpAny _ A.in1 (Builtin.List.listExtendWith (.ref s.heap.objs.size) (.str x t) (.ref s.heap.objs.size)) _ _ _
  unfold Builtin.List.listExtendWith
  refine wpAny_bind (wpAny_typeOf (T := "str") (v := .str x t) rfl ?_)
  have n1 : Builtin.List.listSameRef (.ref s.heap.objs.size) (.str x t) = false := rfl
  have n2 : (Value.type "str" == Value.type "list") = false := by decide
  have n3 : (Value.type "str" == Value.type "tuple") = false := by decide
  simp only [n1, n2, n3, Bool.or_false, Bool.false_eq_true, if_false]
  refine wpAny_bind (wpAny_pyIter_str fun o St W st => wpAny_bind (wpAny_holding ?_))
  unfold Builtin.List.listLengthHint
  refine wpAny_bind (wpAny_specialOf (T := "str") (v := .str x t) rfl F.str_len ?_)
  wp_delta
  refine wpAny_bind (wpAny_isInstance (T := "str") (v := .str x t) (b := true) rfl (by rw [isSubtype_type]; kernel_rfl) ?_)
  show wpAny _ A.in1 (typeOf (Value.str x t) >>= _) _ _ _
  refine wpAny_bind (wpAny_typeOf (T := "str") (v := .str x t) rfl (wpAny_pure ?_))
  rw [if_neg (by decide)]
  have z1 : (s.heap.push { cls := .type "list", data := .seq ([] : List Value).toArray }).objs.size = s.heap.objs.size + 1 := Heap.size_push ..
  have l1 : (s.heap.push { cls := .type "list", data := .seq ([] : List Value).toArray }).get? s.heap.objs.size = some { cls := .type "list", data := .seq ([] : List Value).toArray } := Heap.get?_push_size _ rfl
  have up : ∀ b ob, s.heap.get? b = some ob → (s.heap.push { cls := .type "list", data := .seq ([] : List Value).toArray }).get? b = some ob := fun b ob e => Heap.get?_push_of_some _ e
  generalize s.heap.push { cls := .type "list", data := .seq ([] : List Value).toArray } = G at W st z1 l1 up ⊢
  have out : s.heap.objs.size ∉ [G.objs.size] := fun h => by
    have := List.mem_singleton.mp h
    omega
  refine wpAny_pure ⟨plainId_quiet F.plain_extend_loop _, codeAny_extend_loopS (W A.in1 hh).toS hn _ out _ x.cps.size 0 _ _ _ rfl (Nat.zero_le _) st (Heap.get?_push_of_some _ l1) (ItemsOf.nil _) fun s' acc c m here it => ?_⟩
  show wpAny _ A (load s.heap.objs.size >>= _) _ _ s'
  refine wpAny_bind (wpAny_load here (wpAny_pure (hQ s' acc (fun b ob e => ?_) (Nat.le_of_lt (Heap.lt_size here)) m.gens m.drawn m.os it)))
  have lt := Heap.lt_size e
  refine m.heap b ob (fun h => ?_) (Heap.get?_push_of_some _ (up b ob e))
  rcases List.mem_cons.mp h with h | h
  · exact absurd lt (by rw [h]; exact Nat.lt_irrefl _)
  · have := List.mem_singleton.mp h
    exact absurd lt (by rw [this, z1]; exact Nat.not_lt_of_le (Nat.le_succ _))
theorem cr_sortStr {X : Cx} (hc : X.calm = true) : CallR X (.builtin "sorted") rSortStr := by
  intro pins s σ H vs us Q I r h
  obtain ⟨z, rfl, hz, q⟩ := h
  obtain ⟨u, rfl, rx⟩ := vals1 r
  obtain ⟨t, rfl⟩ := rx
  have zl : z.cps.size ≤ sizeLine := Nat.le_trans hz (by decide)
  refine Calls.call_function_entry kind_sorted plain_sorted entry_sorted (args_sorted1 _) ?_
  unfold Builtin.«sorted»
  refine wpAny_bind (m := checkCount "sorted" 1 1 _) (wpAny_pure ?_)
  refine wpAny_bind (collect_signs (A := X.A.in1) (I.ok.hd hc) z t zl fun s1 acc k1 hsz g1 d1 o1 it => ?_)
  have hS := strs_signs it
  have hvl : acc.toList.length ≤ sizeLine := by
    rw [Array.length_toList, it.1]
    exact zl
  refine wpAny_bind (wpAny_newList ?_ hvl)
  have hoL : (s1.heap.push (seqObj "list" acc.toList.toArray 0)).get? s1.heap.objs.size = some (seqObj "list" acc.toList.toArray 0) := Heap.get?_push_size _ rfl
  refine wpAny_bind (wpAny_holding (wpAny_call_entry slot_list_sort ⟨_, hoL, rfl⟩ entry_list_sort (list_sort_treeKAny strKind_oneLt hoL hS.keysOf (fun v₁ v₂ rest e => keyKind_strs (by rw [← e]; exact hS)) hvl fun st' hp hs => ⟨_, rfl, ?_⟩) (args_list_sort _)))
  obtain ⟨ys, a1, a2, a3⟩ := sorted_out_str hS hp hs
  obtain ⟨c, hcc⟩ := sortedHeap_at (vs := acc.toList) (out := (arrOf st').map (·.2)) hoL
  have hlen : (ys.map V.str).length ≤ sizeLine := by
    rw [List.length_map, a2.length_eq, List.length_map, Array.length_toList]
    exact zl
  have kk : ∀ b o, s.heap.get? b = some o → (sortedHeap (s1.heap.push (seqObj "list" acc.toList.toArray 0)) s1.heap.objs.size acc.toList ((arrOf st').map (·.2))).get? b = some o := fun b o e => by
    have q1 := k1 b o e
    have hlt := Heap.lt_size q1
    refine (sortedHeap_old (Nat.ne_of_lt hlt) ?_).trans (Heap.get?_push_of_some _ q1)
    exact Nat.lt_of_lt_of_eq (Nat.lt_succ_of_lt hlt) (size_push' ..).symm
  have hn : H s1.heap.objs.size = none := I.hok.fresh hsz
  obtain ⟨h1, g1', d1', tk1, os1⟩ := s1
  obtain rfl : g1' = s.gens := g1
  obtain rfl : d1' = s.drawn := d1
  obtain rfl : os1 = s.os := o1
  refine wpAny_pure ⟨_, rfl, .ref h1.objs.size, _, I.laid (t' := tk1) kk hsz (o := .lst (ys.map V.str)) ⟨hlen, _, c, vals_of_strs a1, hcc⟩, rfl, q ys _ a2 a3 hn⟩
end LH

namespace LH
open PySem PySem.Spec PyProof.Rows L2
/-! ### {text for .. in ..} -/
/-- found.add(text) -/
theorem tset_put {P : Program} {w : World} {A : Around} {E : Value → Shared → Prop} {s : Shared} {a : Addr} {l : List Str} {k : Str} {u : Tok} {Q : Value → Shared → Prop} (T : TSet P w a l s.heap) (hb : l.length + 1 < scanBound)
    (h : ∀ (h' : Heap) (tk : Nat), TSet P w a (tAdd l k) h' → (∀ c o, c ≠ a → s.heap.get? c = some o → h'.get? c = some o) → Q .none { s with heap := h', toks := tk }) :
    wpAny (model P w) A (call (.builtin "set.add") [.ref a, .str k u]) Q E s := by
  have ⟨_, D, ho, _⟩ := T
  have ty : s.TypeIs (.ref a) "set" := ⟨_, ho, rfl⟩
  refine wpAny_call_entry PySem.F.slot_set_add ty PySem.F.entry_set_add ?_ (PySem.F.args_set_add_2 _ _)
  unfold Builtin.«set.add» Builtin.Frozenset.oneOther Builtin.Frozenset.addrOf
  simp only [List.isEmpty_nil, bind_assoc]
  refine wpAny_bind (wpAny_pure (wpAny_bind (wpAny_pure (wpAny_bind ?_))))
  exact tx_add T hb fun b h' tk _ T' kp => wpAny_pure ⟨_, rfl, h h' tk T' kp⟩
section
variable {X : Cx}
theorem setT_put {pins : List (Addr × Obj)} {σ : L2.St} {H : Hp} {s : Shared} {E : Value → Shared → Prop} {D : Addr} {l : List Str} {k : Str} {u : Value} {Q : Value → Shared → Prop} (I : Inv X pins σ H s) (hD : H D = some (SetT X.prog X.w D l)) (hb : l.length + 1 < scanBound) (ru : RelV (.str k) u)
    (h : ∀ s', Inv X pins σ (upd H D (SetT X.prog X.w D (tAdd l k))) s' → Q .none s') : wpAny (model X.prog X.w) X.A (call (.builtin "set.add") [.ref D, u]) Q E s := by
  have T : TSet X.prog X.w D l s.heap := (I.hok D _ hD).1
  obtain ⟨t, rfl⟩ := ru
  refine tset_put T hb fun h' tk T' kp => h _ ?_
  have ⟨_, D', e', _⟩ := T'
  exact I.write (e := D) (t' := tk) (by rw [hD]; trivial) (.inl rfl) (fun b o hb q => kp b o hb q) ⟨_, e'⟩ (setT_new T')
/-- what is asked of a turn of the block: the walk J, the place D of the set -/
def TurnsT (P : Program) (w : World) (J : It) (g : TG) (tt : TT) (te : TE) (vs : List Nat) (σ : L2.St) (D : Addr) (Q : Hp → Prop) (W : Nat → Nat → Hp → Prop) : Prop := ∀ i m H, W i m H →
  (J.stop i H ∧ Q H) ∨ (J.go i H ∧ ∃ N : Hp → Prop, (∀ H', N H' → ∃ m', m' < m ∧ W (i + 1) m' H') ∧
    ∀ x H', J.yld i H x H' → g x (wipe σ vs) H' fun σ' H2 => wipe σ' vs = wipe σ vs ∧ tt σ' H2 fun b H3 => bif b then te σ' H3 fun y H4 =>
      ∃ (k : Str) (l : List Str), y = .str k ∧ H4 D = some (SetT P w D l) ∧ l.length + 1 < scanBound ∧ N (upd H4 D (SetT P w D (tAdd l k))) else N H3)
/-- the set comprehension of texts: D is where the new set stands -/
def tScT (P : Program) (w : World) (wi : TI) (g : TG) (tt : TT) (te : TE) (vs : List Nat) : TE := fun σ H Q => wi σ H fun J H1 =>
  ∀ D, H1 D = none → ∃ W : Nat → Nat → Hp → Prop, (∃ m, W 0 m (upd H1 D (SetT P w D []))) ∧ TurnsT P w J g tt te vs σ D (Q (.ref D)) W
variable {elt tg iter : Expr} {ifs : List Expr} {scope : Scope} {own : List (Str × Nat)} {pos : Pos} {wi : TI} {g : TG} {tt : TT} {te : TE}
theorem pe_scT (hc : X.calm = true) (nd : X.N.Nodup) (pi : PI X tg iter wi) (bk : BlkOk X.N X.env.scope scope own)
    (pG : ∀ (s : Shared) (H : Hp) (C : Addr) (cs : List (Str × Addr)) (ps : List Addr), PG (X.blk s H scope (compEnvC scope cs C X.env) ps) tg g)
    (pT : ∀ (s : Shared) (H : Hp) (C : Addr) (cs : List (Str × Addr)) (ps : List Addr), PTs (X.blk s H scope (compEnvC scope cs C X.env) ps) ifs tt)
    (pE : ∀ (s : Shared) (H : Hp) (C : Addr) (cs : List (Str × Addr)) (ps : List Addr), PE (X.blk s H scope (compEnvC scope cs C X.env) ps) elt te)
    (fs : ∀ x, foldedSetIterable iter X.env x = pure x := by intro _; rfl) : PE X (.SetComp elt [⟨tg, iter, ifs, 0⟩] scope pos) (tScT X.prog X.w wi g tt te (own.map (·.2))) := by
  refine ⟨fun pins s σ H Q I h => ?_⟩
  rw [PpSet.eval_SetComp]
  have fr : ∀ y ∈ scope.names, y.2 = .free → ∃ c, X.env.cells.lookup y.1 = some c := fun y hy e => (bk.free y hy e).elim (fun k => I.ok.has _ (.inl k)) fun k => I.ok.has _ (.inr k)
  refine wpAny_comprehension_free rfl fs (closure_ok fr) bk.kind (fun y hy e => by rw [bk.uniq y hy, e]) (thn (pi.run pins s σ H _ I h) fun _ _ hx => thn hx fun _ sa ha => ?_)
  obtain ⟨it, ps, St, J, Ha, e, Ia, T, sta, fpa, q⟩ := ha
  subst e
  refine PpSet.newSet_ok (newEnv_comp ?_)
  obtain ⟨D, hD⟩ : ∃ D, D = sa.heap.objs.size := ⟨_, rfl⟩
  rw [← hD]
  obtain ⟨W, ⟨m0, w0⟩, turns⟩ := q D (Ia.hok.fresh (Nat.le_of_eq hD.symm))
  obtain ⟨sb, hsb⟩ : ∃ sb : Shared, sb = { sa with heap := sa.heap.push (set0 X.w) } := ⟨_, rfl⟩
  have hpb : sb.heap = sa.heap.push (set0 X.w) := by rw [hsb]
  have upb : ∀ b o, sa.heap.get? b = some o → sb.heap.get? b = some o := fun b o z => by
    rw [hpb]
    exact Heap.get?_push_of_some _ z
  obtain ⟨Hb, hHb⟩ : ∃ Hb, Hb = upd Ha D (SetT X.prog X.w D []) := ⟨_, rfl⟩
  have Ib : Inv X pins σ Hb sb := by
    rw [hHb, hsb, hD]
    exact Ia.laid (t' := sa.toks) (fun _ _ z => Heap.get?_push_of_some _ z) (Nat.le_refl _) (setT_new (tset_new (Heap.get?_push_size _ rfl)))
  have fpb : ∀ b ∈ ps, FpOk X pins Hb b ∧ b < sb.heap.objs.size := fun b hb => by
    have ⟨o, eo, _⟩ := T.obj _ _ sta b hb
    have lt := Heap.lt_size eo
    refine ⟨⟨?_, (fpa b hb).2⟩, Heap.lt_size (upb b o eo)⟩
    rw [hHb, upd_ne (by rw [hD]; exact Nat.ne_of_lt lt)]
    exact (fpa b hb).1
  have stb : St 0 sb.heap := T.keep _ _ _ sta fun b _ o z => upb b o z
  have Ic := block_start Ib bk nd fpb
  obtain ⟨cs, hcs⟩ : ∃ cs, cs = cellsFrom (sb.heap.objs.size + 1) scope.names (cloFrom X.env.cells scope.names []) := ⟨_, rfl⟩
  rw [← hcs] at Ic
  have kG := pG sb Hb sb.heap.objs.size cs ps
  have kT := pT sb Hb sb.heap.objs.size cs ps
  have kE := pE sb Hb sb.heap.objs.size cs ps
  rw [← hHb] at w0
  obtain ⟨be, hbe⟩ : ∃ be, be = compEnvC scope cs sb.heap.objs.size X.env := ⟨_, rfl⟩
  have bl : be.locals = sb.heap.objs.size := by rw [hbe]; rfl
  rw [← hbe] at Ic kG kT kE
  obtain ⟨sc, hsc⟩ : ∃ sc : Shared, sc = { sb with heap := pushCells (sb.heap.push { cls := .type "dict", data := .dict #[] }) scope.names } := ⟨_, rfl⟩
  rw [← hsc] at Ic
  have stc : St 0 sc.heap := T.keep _ _ _ stb fun b _ o z => by
    rw [hsc]
    exact pushCells_keeps _ _ _ _ (Heap.get?_push_of_some _ z)
  have rest : ∀ {τ : L2.St} {G : Hp} {sx : Shared}, Inv (X.blk sb Hb scope be ps) [] τ G sx → (∀ b ∈ ps, G b = none) → ∀ b ∈ ps, FpOk (X.blk sb Hb scope be ps) [] G b := fun {τ G sx} Ix nx b hb => by
    have z := Ix.ok.exf b hb
    exact ⟨nx b hb, z.1, Ix.ok.exfs b hb, .inl hb, z.2, fun p hp => by cases (show p ∈ ([] : List (Addr × Obj)) from hp)⟩
  have fin : compPost (model X.prog X.w) X.A X.xe none (fun v s' => ∃ y H', Inv X pins σ H' s' ∧ RelV y v ∧ Q y H') (.ref D) sb.heap.objs.size = compPost (model X.prog X.w) X.A X.xe none (fun v s' => ∃ y H', Inv X pins σ H' s' ∧ RelV y v ∧ Q y H') (.ref D) sb.heap.objs.size := rfl
  have loop : codeAny (model X.prog X.w) X.A (.compLoop (.SetComp elt [⟨tg, iter, ifs, 0⟩] scope pos) 0 (.ref it) (.ref D) be) (compPost (model X.prog X.w) X.A X.xe none (fun v s' => ∃ y H', Inv X pins σ H' s' ∧ RelV y v ∧ Q y H') (.ref D) sb.heap.objs.size) sc := by
    refine PpSet.compLoopS_any (fun n sx => ∃ i G, Inv (X.blk sb Hb scope be ps) [] (wipe σ (own.map (·.2))) G sx ∧ St i sx.heap ∧ (∀ b ∈ ps, G b = none) ∧ W i n G) ?_ m0 ⟨0, Hb, Ic, stc, fun b hb => (fpb b hb).1.1, w0⟩
    rintro n s1 ⟨i, H1, I1, st1, n1, w1⟩
    rcases turns i n H1 w1 with ⟨stop, qd⟩ | ⟨go, N, hN, step⟩
    · refine thnF (T.done (X.blk sb Hb scope be ps) rfl rfl rfl hc i [] s1 _ H1 (fun _ _ => False) I1 (rest I1 n1) st1 stop) fun r s2 ⟨er, I2⟩ => ?_
      subst er
      have I3 : Inv X pins σ H1 s2 := Ib.call' (ch := ps) I2.os I2.base I2.hok I2.bare fun b hb => by
        have z := (fpb b hb).1.2
        exact ⟨z.2.2.1, z.1, z.2.2.2.1, z.2.2.2.2⟩
      have nC : H1 sb.heap.objs.size = none := by
        rw [← bl]
        exact I2.free
      obtain ⟨m, hm, _⟩ := I2.loc
      have hm : s2.heap.Ns be.locals m := hm
      rw [bl] at hm
      obtain ⟨f0, f1, _, f3, f4, f5⟩ := Ib.fpOk (Nat.le_refl _) nC
      exact ⟨m, hm, fun _ sm => ⟨.ref D, H1, I3.turned (t' := s2.toks) (fun b o hb z => (sm.2 b hb).trans z) f0 f1 f3 f4 f5, rfl, qd⟩⟩
    · refine thnF (T.item (X.blk sb Hb scope be ps) rfl rfl rfl hc i [] s1 _ H1 (fun _ _ => False) I1 (rest I1 n1) st1 go) fun r s2 ⟨u, er, h2⟩ => ?_
      subst er
      refine thnF h2 fun _ s3 ⟨x, H3, I3, r3, y3, st3, n3⟩ => ?_
      have P3 := I3.pinned (rest I3 n3) (T.obj _ _ st3)
      refine thnF (kG.run _ s3 _ H3 x u _ P3 r3 (step x H3 y3)) fun _ s4 ⟨σ4, H4, I4, hw, q4⟩ => ?_
      refine thnF (kT.run _ s4 σ4 H4 _ I4 q4) fun b s5 ⟨H5, I5, q5⟩ => ?_
      have back : ∀ {sx : Shared} {G : Hp}, Inv (X.blk sb Hb scope be ps) ([] ++ pinsAt ps s3.heap) σ4 G sx → N G → ∃ m, m < n ∧ ∃ i G, Inv (X.blk sb Hb scope be ps) [] (wipe σ (own.map (·.2))) G sx ∧ St i sx.heap ∧ (∀ b ∈ ps, G b = none) ∧ W i m G := fun {sx G} Ix nG => by
        obtain ⟨m', lt, w'⟩ := hN G nG
        have kp : ∀ b ∈ ps, ∀ o, s3.heap.get? b = some o → sx.heap.get? b = some o ∧ G b = none := fun b hb o z => by
          have y := Ix.pin (b, o) (List.mem_append_right _ (List.mem_append_right _ (mem_pinsAt hb z)))
          exact ⟨y.1, y.2.1⟩
        refine ⟨m', lt, i + 1, G, (Ix.unpinned (pins := [])).weak (by rw [← hw, wipe_length]) (fun j v z => ?_), T.keep _ _ _ st3 fun b hb o z => (kp b hb o z).1, fun b hb => ?_, w'⟩
        · rw [← hw] at z
          exact (wipe_some z).1
        · have ⟨o, z, _⟩ := T.obj _ _ st3 b hb
          exact (kp b hb o z).2
      cases b with
      | false => exact back I5 q5
      | true =>
        refine thnF (kE.run _ s5 σ4 H5 _ I5 q5) fun z s6 ⟨y, H6, I6, r6, k, l, ey, hl6, hb6, nx⟩ => ?_
        subst ey
        exact setT_put (X := X.blk sb Hb scope be ps) I6 hl6 hb6 r6 fun s7 I7 => back I7 nx
  have e1 : ({ sb with heap := pushCells (sb.heap.push { cls := .type "dict", data := .dict #[] }) scope.names } : Shared) = sc := hsc.symm
  rw [hsb] at e1 loop hbe hcs
  have := PpSet.codeAny_compStart_set loop (T.self X.A 0 _ _ _ stc loop)
  rw [hbe, hcs, ← e1] at this
  exact this
/-- over a walk -/
theorem sc_it {P : Program} {w : World} {J : It} {n : Nat} {G : Hp → Prop} {Y : Nat → Hp → V → Hp → Prop} (wk : Walk J n G Y) {vs : List Nat} {σ : L2.St} {H1 : Hp} {D : Addr} {Q : Hp → Prop} (Pv : Nat → Hp → Prop) (h0 : Pv 0 (upd H1 D (SetT P w D []))) (hG : ∀ i H, i ≤ n → Pv i H → G H)
    (hs : ∀ i x H H', i < n → Pv i H → Y i H x H' → g x (wipe σ vs) H' fun σ' H2 => wipe σ' vs = wipe σ vs ∧ tt σ' H2 fun b H3 => bif b then te σ' H3 fun y H4 =>
      ∃ (k : Str) (l : List Str), y = .str k ∧ H4 D = some (SetT P w D l) ∧ l.length + 1 < scanBound ∧ Pv (i + 1) (upd H4 D (SetT P w D (tAdd l k))) else Pv (i + 1) H3) (hd : ∀ H, Pv n H → Q H) :
    ∃ W : Nat → Nat → Hp → Prop, (∃ m, W 0 m (upd H1 D (SetT P w D []))) ∧ TurnsT P w J g tt te vs σ D Q W := by
  refine ⟨fun i m H => m + i = n ∧ Pv i H, ⟨n, rfl, h0⟩, fun i m H hW => ?_⟩
  obtain ⟨e, p⟩ := hW
  have q := hG i H (by omega) p
  cases m with
  | zero =>
    obtain rfl : i = n := by omega
    exact .inl ⟨wk.stops H q, hd H p⟩
  | succ m =>
    have lt : i < n := by omega
    exact .inr ⟨wk.goes i H lt q, Pv (i + 1), fun H' p' => ⟨m, Nat.lt_succ_self _, by omega, p'⟩, fun x H' y => hs i x H H' lt p (wk.yields i H x H' lt q y)⟩
end
section
variable {X : Cx} (P : Program) (w : World) (hP : X.prog = P) (hw : X.w = w)
include hP hw
theorem pe_scTK {elt tg iter : Expr} {ifs : List Expr} {scope : Scope} {own : List (Str × Nat)} {pos : Pos} {wi : TI} {g : TG} {tt : TT} {te : TE} (hc : X.calm = true) (nd : X.N.Nodup) (pi : PI X tg iter wi) (bk : BlkOk X.N X.env.scope scope own)
    (pG : ∀ (s : Shared) (H : Hp) (C : Addr) (cs : List (Str × Addr)) (ps : List Addr), PG (X.blk s H scope (compEnvC scope cs C X.env) ps) tg g)
    (pT : ∀ (s : Shared) (H : Hp) (C : Addr) (cs : List (Str × Addr)) (ps : List Addr), PTs (X.blk s H scope (compEnvC scope cs C X.env) ps) ifs tt)
    (pE : ∀ (s : Shared) (H : Hp) (C : Addr) (cs : List (Str × Addr)) (ps : List Addr), PE (X.blk s H scope (compEnvC scope cs C X.env) ps) elt te)
    (fs : ∀ x, foldedSetIterable iter X.env x = pure x := by intro _; rfl) : PE X (.SetComp elt [⟨tg, iter, ifs, 0⟩] scope pos) (tScT P w wi g tt te (own.map (·.2))) := by
  subst hP hw
  exact pe_scT hc nd pi bk pG pT pE fs
end
end LH

namespace LH
open PySem PySem.Spec PyProof.Rows L2
/-! ### text[a::b] -/
def stepS (z : Str) (a b : Int) : Str := ⟨((Builtin.Str.strSliceIndices (some a) none b z.length).filterMap (z.cps[·]?)).toArray⟩
def tStepS (te : TE) (tl ts : TO) : TE := fun σ H Q => te σ H fun x H1 => tl σ H1 fun l H2 => ts σ H2 fun o H3 =>
  ∃ (z : Str) (a b : Int), x = .str z ∧ l = some a ∧ o = some b ∧ b ≠ 0 ∧ (stepS z a b).length ≤ sizeLine ∧ (b = 1 → (Builtin.Str.strSliceIndices (some a) none b z.length).length = z.length → stepS z a b = z) ∧ Q (.str (stepS z a b)) H3
theorem pe_stepS {X : Cx} {e : Expr} {lo : Option Expr} {st : Expr} {te : TE} {tl ts : TO} {p3 pos : Pos} (he : PE X e te) (hl : PO X lo tl) (hs : PO X (some st) ts) : PE X (.Subscript e (.Slice lo none (some st) p3) pos) (tStepS te tl ts) := by
  refine ⟨fun pins s σ H Q I h => ?_⟩
  refine Subscript_ (thn (he.run pins s σ H _ I h) fun v s1 ⟨x, H1, I1, r1, q1⟩ => ?_)
  refine wpAny_Slice (thn (hl.run pins s1 σ H1 _ I1 q1) fun vl s2 ⟨l, H2, I2, pl, q2⟩ => ?_)
  refine thn (po_none.run pins s2 σ H2 (fun o H3 => o = none ∧ H3 = H2) I2 ⟨rfl, rfl⟩) fun vu s3 ⟨u, H3, I3, pu, eu, e3⟩ => ?_
  subst eu e3
  refine thn (hs.run pins s3 σ H3 _ I3 q2) fun vs s4 ⟨o, H4, I4, ps, q4⟩ => ?_
  obtain ⟨z, a, b, ex, ea, eb, hb, hz, hw, q⟩ := q4
  subst ex ea eb
  obtain ⟨t, rfl⟩ := r1
  have I5 : Inv X pins σ H4 { s4 with heap := s4.heap.push { cls := .type "slice", data := .fields #[vl, vu, vs] } } := I4.kept (t' := s4.toks) fun b ob q => Heap.get?_push_of_some _ q
  obtain ⟨l', rfl, hl'⟩ := IsPart.raw pl
  obtain ⟨u', rfl, hu'⟩ := IsPart.raw pu
  obtain ⟨st', rfl, hs'⟩ := IsPart.raw ps
  have eu : u' = none := by cases u' <;> simp_all
  subst eu
  obtain ⟨c1, d1, rfl⟩ : ∃ c d, l' = some (c, d) := by
    cases l' with
    | none => simp at hl'
    | some p => exact ⟨p.1, p.2, rfl⟩
  obtain ⟨c2, d2, rfl⟩ : ∃ c d, st' = some (c, d) := by
    cases st' with
    | none => simp at hs'
    | some p => exact ⟨p.1, p.2, rfl⟩
  have e1 : a = c1 := by simpa using hl'.symm
  have e2 : b = c2 := by simpa using hs'.symm
  subst e1 e2
  refine tail_any (ops := [.str z t, .ref s4.heap.objs.size]) (typeIs_str _ _ _) F.slot_str_getitem.lookup ?_ (by with_unfolding_all rfl)
  refine wpAny_getItem_str_slice (l := some (a, d1)) (u := none) (st := some (b, d2)) ⟨_, Heap.get?_push_size _ rfl, rfl, rfl⟩ (by simpa using hb) ?_
  show Made.post (if (b == 1 && (Builtin.Str.strSliceIndices (some a) none b z.length).length == z.length) = true then Made.val (.str z t) else Made.str (stepS z a b)) (EP X pins σ Q) _
  by_cases hc : (b == 1 && (Builtin.Str.strSliceIndices (some a) none b z.length).length == z.length) = true
  · rw [if_pos hc]
    rw [Bool.and_eq_true] at hc
    have ez := hw (by simpa using hc.1) (by simpa using hc.2)
    rw [ez] at q
    exact ⟨.str z, H4, I5, ⟨_, rfl⟩, q⟩
  · rw [if_neg hc]
    exact ⟨hz, .str _, H4, I5.tok _, ⟨_, rfl⟩, q⟩
end LH

namespace LH
open PySem PySem.Spec PyProof.Rows L2
def topS (i : Nat) : Stmt := PySem.Challenge.pw_likehands_k88_places_of_steps.main.body.getD i (.Pass ⟨0, 0, 0, 0⟩)
abbrev s_after : Stmt := topS 1
abbrev N_after : List Str := ["letters", "shape", "rule", "word", "place", "other"]
theorem sc_after : FnScope N_after ["letters", "shape", "rule", "word"] (defScope s_after) := ⟨rfl, rfl, rfl, by decide +kernel, rfl, by decide +kernel, by decide +kernel⟩
abbrev s_made_at : Stmt := topS 2
abbrev N_made_at : List Str := ["letters", "shape", "rule", "word"]
theorem sc_made_at : FnScope N_made_at ["letters", "shape", "rule", "word"] (defScope s_made_at) := ⟨rfl, rfl, rfl, by decide +kernel, rfl, by decide +kernel, by decide +kernel⟩
abbrev s_made_by_one : Stmt := topS 3
abbrev N_made_by_one : List Str := ["rule", "word", "kind", "x", "y", "guard", "made", "at", "letter"]
theorem sc_made_by_one : FnScope N_made_by_one ["rule", "word"] (defScope s_made_by_one) := ⟨rfl, rfl, rfl, by decide +kernel, rfl, by decide +kernel, by decide +kernel⟩
abbrev s_holds : Stmt := topS 4
abbrev N_holds : List Str := ["guard", "word", "at", "how", "where", "some", "left", "right", "hits", "letter"]
theorem sc_holds : FnScope N_holds ["guard", "word", "at"] (defScope s_holds) := ⟨rfl, rfl, rfl, by decide +kernel, rfl, by decide +kernel, by decide +kernel⟩
abbrev s_made_by_two : Stmt := topS 5
abbrev N_made_by_two : List Str := ["shape", "rule", "word", "kind", "x", "y", "u", "v", "made", "first", "second", "signs"]
theorem sc_made_by_two : FnScope N_made_by_two ["shape", "rule", "word"] (defScope s_made_by_two) := ⟨rfl, rfl, rfl, by decide +kernel, rfl, by decide +kernel, by decide +kernel⟩
abbrev s_pairs_of : Stmt := topS 6
abbrev N_pairs_of : List Str := ["shape", "number", "pairs", "at"]
theorem sc_pairs_of : FnScope N_pairs_of ["shape", "number"] (defScope s_pairs_of) := ⟨rfl, rfl, rfl, by decide +kernel, rfl, by decide +kernel, by decide +kernel⟩
abbrev s_made_by_call : Stmt := topS 7
abbrev N_made_by_call : List Str := ["letters", "rule", "word", "kind", "x", "y", "image", "turned", "letter", "at"]
theorem sc_made_by_call : FnScope N_made_by_call ["letters", "rule", "word"] (defScope s_made_by_call) := ⟨rfl, rfl, rfl, by decide +kernel, rfl, by decide +kernel, by decide +kernel⟩
abbrev s_places_of : Stmt := topS 9
abbrev N_places_of : List Str := ["world", "number", "word", "other", "letters", "shape", "rules", "begin", "bad", "place", "made"]
theorem sc_places_of : FnScope N_places_of ["world", "number", "word", "other"] (defScope s_places_of) := ⟨rfl, rfl, rfl, by decide +kernel, rfl, by decide +kernel, by decide +kernel⟩
abbrev s_law_cell_at : Stmt := topS 11
abbrev N_law_cell_at : List Str := ["script", "k"]
theorem sc_law_cell_at : FnScope N_law_cell_at ["script", "k"] (defScope s_law_cell_at) := ⟨rfl, rfl, rfl, by decide +kernel, rfl, by decide +kernel, by decide +kernel⟩
abbrev s_law_take : Stmt := topS 12
abbrev N_law_take : List Str := ["deck", "many", "told", "number"]
theorem sc_law_take : FnScope N_law_take ["deck", "many"] (defScope s_law_take) := ⟨rfl, rfl, rfl, by decide +kernel, rfl, by decide +kernel, by decide +kernel⟩
abbrev s_law_deck : Stmt := topS 13
abbrev N_law_deck : List Str := ["cell", "k"]
theorem sc_law_deck : FnScope N_law_deck ["cell", "k"] (defScope s_law_deck) := ⟨rfl, rfl, rfl, by decide +kernel, rfl, by decide +kernel, by decide +kernel⟩
abbrev s_law_item : Stmt := topS 14
abbrev N_law_item : List Str := ["deck", "letters", "way", "item", "some", "letter"]
theorem sc_law_item : FnScope N_law_item ["deck", "letters"] (defScope s_law_item) := ⟨rfl, rfl, rfl, by decide +kernel, rfl, by decide +kernel, by decide +kernel⟩
abbrev s_law_pattern : Stmt := topS 15
abbrev N_law_pattern : List Str := ["deck", "letters", "branches", "k", "items", "sure", "j"]
theorem sc_law_pattern : FnScope N_law_pattern ["deck", "letters"] (defScope s_law_pattern) := ⟨rfl, rfl, rfl, by decide +kernel, rfl, by decide +kernel, by decide +kernel⟩
abbrev s_law_rule : Stmt := topS 16
abbrev N_law_rule : List Str := ["deck", "letters", "shape", "kind", "some", "picture", "guard", "where", "seen_ones", "k", "letter"]
theorem sc_law_rule : FnScope N_law_rule ["deck", "letters", "shape"] (defScope s_law_rule) := ⟨rfl, rfl, rfl, by decide +kernel, rfl, by decide +kernel, by decide +kernel⟩
abbrev s_law_world : Stmt := topS 17
abbrev N_law_world : List Str := ["deck", "most", "rules", "many", "letters", "shape", "some", "k"]
theorem sc_law_world : FnScope N_law_world ["deck", "most", "rules"] (defScope s_law_world) := ⟨rfl, rfl, rfl, by decide +kernel, rfl, by decide +kernel, by decide +kernel⟩
abbrev s_law_guarded : Stmt := topS 18
abbrev N_law_guarded : List Str := ["guard", "word", "place", "beside", "inside", "letter"]
theorem sc_law_guarded : FnScope N_law_guarded ["guard", "word", "place"] (defScope s_law_guarded) := ⟨rfl, rfl, rfl, by decide +kernel, rfl, by decide +kernel, by decide +kernel⟩
abbrev s_law_turned_at : Stmt := topS 19
abbrev N_law_turned_at : List Str := ["letters", "shape", "rule", "word", "place", "signs", "beside", "letter"]
theorem sc_law_turned_at : FnScope N_law_turned_at ["letters", "shape", "rule", "word", "place"] (defScope s_law_turned_at) := ⟨rfl, rfl, rfl, by decide +kernel, rfl, by decide +kernel, by decide +kernel⟩
abbrev s_law_steps : Stmt := topS 20
abbrev N_law_steps : List Str := ["world", "word", "found", "number", "some", "place", "other"]
theorem sc_law_steps : FnScope N_law_steps ["world", "word"] (defScope s_law_steps) := ⟨rfl, rfl, rfl, by decide +kernel, rfl, by decide +kernel, by decide +kernel⟩
abbrev s_law_word : Stmt := topS 21
abbrev N_law_word : List Str := ["deck", "letters", "word", "k"]
theorem sc_law_word : FnScope N_law_word ["deck", "letters"] (defScope s_law_word) := ⟨rfl, rfl, rfl, by decide +kernel, rfl, by decide +kernel, by decide +kernel⟩
abbrev s_law_right : Stmt := topS 22
abbrev N_law_right : List Str := ["world", "number", "word", "other", "rule", "due", "place", "told", "spot"]
theorem sc_law_right : FnScope N_law_right ["world", "number", "word", "other"] (defScope s_law_right) := ⟨rfl, rfl, rfl, by decide +kernel, rfl, by decide +kernel, by decide +kernel⟩
abbrev s_law : Stmt := topS 23
abbrev N_law : List Str := ["script", "world", "cell", "deck", "word", "number", "some", "other", "numbers", "made"]
theorem sc_law : FnScope N_law ["script"] (defScope s_law) := ⟨rfl, rfl, rfl, by decide +kernel, rfl, by decide +kernel, by decide +kernel⟩
structure TX (K : PySem.W.Frag) (mg : Str → Option Value) where
  a_after : Addr
  fd_after : FuncData
  F_after : Fun K "after" "after" s_after a_after fd_after
  b_after : Binds K fd_after ["letters", "shape", "rule", "word"] []
  g_after : mg "after" = some (.ref a_after)
  a_made_at : Addr
  fd_made_at : FuncData
  F_made_at : Fun K "made_at" "made_at" s_made_at a_made_at fd_made_at
  b_made_at : Binds K fd_made_at ["letters", "shape", "rule", "word"] []
  g_made_at : mg "made_at" = some (.ref a_made_at)
  a_made_by_one : Addr
  fd_made_by_one : FuncData
  F_made_by_one : Fun K "made_by_one" "made_by_one" s_made_by_one a_made_by_one fd_made_by_one
  b_made_by_one : Binds K fd_made_by_one ["rule", "word"] []
  g_made_by_one : mg "made_by_one" = some (.ref a_made_by_one)
  a_holds : Addr
  fd_holds : FuncData
  F_holds : Fun K "holds" "holds" s_holds a_holds fd_holds
  b_holds : Binds K fd_holds ["guard", "word", "at"] []
  g_holds : mg "holds" = some (.ref a_holds)
  a_made_by_two : Addr
  fd_made_by_two : FuncData
  F_made_by_two : Fun K "made_by_two" "made_by_two" s_made_by_two a_made_by_two fd_made_by_two
  b_made_by_two : Binds K fd_made_by_two ["shape", "rule", "word"] []
  g_made_by_two : mg "made_by_two" = some (.ref a_made_by_two)
  a_pairs_of : Addr
  fd_pairs_of : FuncData
  F_pairs_of : Fun K "pairs_of" "pairs_of" s_pairs_of a_pairs_of fd_pairs_of
  b_pairs_of : Binds K fd_pairs_of ["shape", "number"] []
  g_pairs_of : mg "pairs_of" = some (.ref a_pairs_of)
  a_made_by_call : Addr
  fd_made_by_call : FuncData
  F_made_by_call : Fun K "made_by_call" "made_by_call" s_made_by_call a_made_by_call fd_made_by_call
  b_made_by_call : Binds K fd_made_by_call ["letters", "rule", "word"] []
  g_made_by_call : mg "made_by_call" = some (.ref a_made_by_call)
  a_places_of : Addr
  fd_places_of : FuncData
  F_places_of : Fun K "places_of" "places_of" s_places_of a_places_of fd_places_of
  b_places_of : Binds K fd_places_of ["world", "number", "word", "other"] []
  g_places_of : mg "places_of" = some (.ref a_places_of)
  a_law_cell_at : Addr
  fd_law_cell_at : FuncData
  F_law_cell_at : Fun K "_law_cell_at" "_law_cell_at" s_law_cell_at a_law_cell_at fd_law_cell_at
  b_law_cell_at : Binds K fd_law_cell_at ["script", "k"] []
  g_law_cell_at : mg "_law_cell_at" = some (.ref a_law_cell_at)
  a_law_take : Addr
  fd_law_take : FuncData
  F_law_take : Fun K "_law_take" "_law_take" s_law_take a_law_take fd_law_take
  b_law_take : Binds K fd_law_take ["deck", "many"] []
  g_law_take : mg "_law_take" = some (.ref a_law_take)
  a_law_deck : Addr
  fd_law_deck : FuncData
  F_law_deck : Fun K "_law_deck" "_law_deck" s_law_deck a_law_deck fd_law_deck
  b_law_deck : Binds K fd_law_deck ["cell", "k"] []
  g_law_deck : mg "_law_deck" = some (.ref a_law_deck)
  a_law_item : Addr
  fd_law_item : FuncData
  F_law_item : Fun K "_law_item" "_law_item" s_law_item a_law_item fd_law_item
  b_law_item : Binds K fd_law_item ["deck", "letters"] []
  g_law_item : mg "_law_item" = some (.ref a_law_item)
  a_law_pattern : Addr
  fd_law_pattern : FuncData
  F_law_pattern : Fun K "_law_pattern" "_law_pattern" s_law_pattern a_law_pattern fd_law_pattern
  b_law_pattern : Binds K fd_law_pattern ["deck", "letters"] []
  g_law_pattern : mg "_law_pattern" = some (.ref a_law_pattern)
  a_law_rule : Addr
  fd_law_rule : FuncData
  F_law_rule : Fun K "_law_rule" "_law_rule" s_law_rule a_law_rule fd_law_rule
  b_law_rule : Binds K fd_law_rule ["deck", "letters", "shape"] []
  g_law_rule : mg "_law_rule" = some (.ref a_law_rule)
  a_law_world : Addr
  fd_law_world : FuncData
  F_law_world : Fun K "_law_world" "_law_world" s_law_world a_law_world fd_law_world
  b_law_world : Binds K fd_law_world ["deck", "most", "rules"] []
  g_law_world : mg "_law_world" = some (.ref a_law_world)
  a_law_guarded : Addr
  fd_law_guarded : FuncData
  F_law_guarded : Fun K "_law_guarded" "_law_guarded" s_law_guarded a_law_guarded fd_law_guarded
  b_law_guarded : Binds K fd_law_guarded ["guard", "word", "place"] []
  g_law_guarded : mg "_law_guarded" = some (.ref a_law_guarded)
  a_law_turned_at : Addr
  fd_law_turned_at : FuncData
  F_law_turned_at : Fun K "_law_turned_at" "_law_turned_at" s_law_turned_at a_law_turned_at fd_law_turned_at
  b_law_turned_at : Binds K fd_law_turned_at ["letters", "shape", "rule", "word", "place"] []
  g_law_turned_at : mg "_law_turned_at" = some (.ref a_law_turned_at)
  a_law_steps : Addr
  fd_law_steps : FuncData
  F_law_steps : Fun K "_law_steps" "_law_steps" s_law_steps a_law_steps fd_law_steps
  b_law_steps : Binds K fd_law_steps ["world", "word"] []
  g_law_steps : mg "_law_steps" = some (.ref a_law_steps)
  a_law_word : Addr
  fd_law_word : FuncData
  F_law_word : Fun K "_law_word" "_law_word" s_law_word a_law_word fd_law_word
  b_law_word : Binds K fd_law_word ["deck", "letters"] []
  g_law_word : mg "_law_word" = some (.ref a_law_word)
  a_law_right : Addr
  fd_law_right : FuncData
  F_law_right : Fun K "_law_right" "_law_right" s_law_right a_law_right fd_law_right
  b_law_right : Binds K fd_law_right ["world", "number", "word", "other"] []
  g_law_right : mg "_law_right" = some (.ref a_law_right)
  m_all : mg "all" = none
  m_any : mg "any" = none
  m_bool : mg "bool" = none
  m_enumerate : mg "enumerate" = none
  m_int : mg "int" = none
  m_isinstance : mg "isinstance" = none
  m_len : mg "len" = none
  m_list : mg "list" = none
  m_range : mg "range" = none
  m_sorted : mg "sorted" = none
  m_tuple : mg "tuple" = none
/-! ### decks: three numbers, of which the last one tells how many were taken -/
def RowAt (H : Hp) (r : Addr) (n : Nat) : Prop := ∃ a b c : Int, H r = some (.lst [.int a, .int b, .int c]) ∧ 0 ≤ c ∧ c ≤ (n : Int)
theorem RowAt.le {H : Hp} {r : Addr} {n m : Nat} (h : RowAt H r n) (l : n ≤ m) : RowAt H r m := by
  obtain ⟨a, b, c, e, c0, c1⟩ := h
  exact ⟨a, b, c, e, c0, by omega⟩
/-- all that was tracked, but for what stands at r, is as it was -/
def Off (r : Addr) (H H' : Hp) : Prop := ∀ b o, b ≠ r → H b = some o → H' b = some o
theorem Off.refl (r : Addr) (H : Hp) : Off r H H := fun _ _ _ h => h
theorem Off.trans {r : Addr} {H H1 H2 : Hp} (a : Off r H H1) (b : Off r H1 H2) : Off r H H2 := fun c o n h => b c o n (a c o n h)
theorem Off.of {r : Addr} {H H' : Hp} (a : Same H H') : Off r H H' := fun c o _ h => a c o h
theorem Off.new {r p : Addr} {H : Hp} {o : HO} (h : H p = none) : Off r H (upd H p o) := fun b x _ e => by
  rw [upd_ne (ne_of_none e h)]
  exact e
theorem Off.put {r : Addr} {H : Hp} {o : HO} : Off r H (upd H r o) := fun b x n e => by
  rw [upd_ne n]
  exact e
theorem Off.mut {r p : Addr} {H H' : Hp} {o : HO} (e : Off r H H') (h : H p = none) : Off r H (upd H' p o) := fun a u n ha => by
  rw [upd_ne (ne_of_none ha h)]
  exact e a u n ha
theorem Off.free {r p : Addr} {H H' : Hp} (e : Off r H H') (hr : r ≠ p) (h : H' p = none) : H p = none := by
  cases q : H p with
  | none => rfl
  | some o =>
    rw [e p o (Ne.symm hr) q] at h
    cases h
theorem RowAt.new {n : Nat} {r p : Addr} {H : Hp} {o : HO} (x : RowAt H r n) (h : H p = none) : RowAt (upd H p o) r n := by
  obtain ⟨a, b, c, e, q⟩ := x
  exact ⟨a, b, c, by rw [upd_ne (ne_of_none e h)]; exact e, q⟩
theorem RowAt.upd {n : Nat} {r p : Addr} {H : Hp} {o : HO} (x : RowAt H r n) (h : r ≠ p) : RowAt (upd H p o) r n := by
  obtain ⟨a, b, c, e, q⟩ := x
  exact ⟨a, b, c, by rw [upd_ne h]; exact e, q⟩
theorem RowAt.ne {n : Nat} {r p : Addr} {H : Hp} (x : RowAt H r n) (h : H p = none) : r ≠ p := by
  obtain ⟨a, b, c, e, q⟩ := x
  exact ne_of_none e h
theorem RowAt.neT {n : Nat} {r p : Addr} {H : Hp} {xs : List V} (x : RowAt H r n) (h : H p = some (.tup xs)) : p ≠ r := by
  obtain ⟨a, b, c, e, q⟩ := x
  exact ne_of h e (by intro z; cases z)
theorem same_new {H : Hp} {p : Addr} {o : HO} (h : H p = none) : Same H (upd H p o) := fun b x e => by
  rw [upd_ne (ne_of_none e h)]
  exact e
abbrev vi (ns : List Nat) : List V := ns.map fun (n : Nat) => V.int (n : Int)
theorem vi_snoc (ys : List Nat) (c : Nat) : vi ys ++ [V.int (c : Int)] = vi (ys ++ [c]) := by
  show _ = List.map _ (ys ++ [c])
  rw [List.map_append]
  rfl
abbrev vr (as : List Addr) : List V := as.map V.ref
theorem vr_snoc (ys : List Addr) (c : Addr) : vr ys ++ [V.ref c] = vr (ys ++ [c]) := by
  show _ = List.map _ (ys ++ [c])
  rw [List.map_append]
  rfl
/-- tuples stand -/
def Tups (H H' : Hp) : Prop := ∀ b xs, H b = some (.tup xs) → H' b = some (.tup xs)
theorem Tups.refl (H : Hp) : Tups H H := fun _ _ h => h
theorem Tups.trans {H H1 H2 : Hp} (a : Tups H H1) (b : Tups H1 H2) : Tups H H2 := fun c o h => b c o (a c o h)
theorem Tups.same {H H' : Hp} (a : Same H H') : Tups H H' := fun c _ h => a c _ h
theorem Tups.off {n : Nat} {r : Addr} {H H' : Hp} (R : RowAt H r n) (a : Off r H H') : Tups H H' := fun c _ h => a c _ (R.neT h) h
theorem Tups.new {p : Addr} {H : Hp} {o : HO} (h : H p = none) : Tups H (upd H p o) := Tups.same (same_new h)
theorem Tups.lst {p : Addr} {H : Hp} {xs : List V} {o : HO} (h : H p = some (.lst xs)) : Tups H (upd H p o) := fun c ys e => by
  rw [upd_ne (ne_of e h (by intro z; cases z))]
  exact e
theorem mem_snoc {α : Type} {p : α → Prop} {xs : List α} {x : α} (h : ∀ y ∈ xs, p y) (hx : p x) : ∀ y ∈ xs ++ [x], p y := fun y hy => by
  rcases List.mem_append.mp hy with q | q
  · exact h y q
  · rw [List.mem_singleton.mp q]
    exact hx
theorem tAdd_nodup {l : List Str} {k : Str} (h : l.Nodup) : (tAdd l k).Nodup := by
  unfold tAdd
  split
  · exact h
  · rename_i q
    exact List.nodup_cons.mpr ⟨q, h⟩
theorem tAll_nodup (xs : List Str) : (tAll xs).Nodup := by
  unfold tAll
  have : ∀ (xs l : List Str), l.Nodup → (xs.foldl tAdd l).Nodup := by
    intro xs
    induction xs with
    | nil => intro l h; exact h
    | cons x r ih => intro l h; exact ih _ (tAdd_nodup h)
  exact this xs [] List.nodup_nil
theorem sum_sg (cs : List Nat) : ((cs.map sg).map (·.length)).sum = cs.length := by
  rw [List.map_map, show ((fun x : Str => x.length) ∘ sg) = fun _ => 1 from rfl, List.map_const', List.sum_replicate_nat]
  omega
/-- signs that are sorted and were put into a set -/
theorem sg_sorted {cs : List Nat} {zs : List Str} (p : zs.Perm (tAll (cs.map sg))) (s : sortedS zs = true) : ∃ ds : List Nat, zs = ds.map sg ∧ ds.Pairwise (· < ·) ∧ (∀ c, c ∈ ds ↔ c ∈ cs) ∧ ds.length ≤ cs.length := by
  have hm : ∀ x, x ∈ zs ↔ x ∈ cs.map sg := fun x => p.mem_iff.trans mem_tAll
  let f : Str → Nat := fun z => z.cps.getD 0 0
  have e : zs = (zs.map f).map sg := by
    rw [List.map_map]
    conv => lhs; rw [← List.map_id zs]
    refine List.map_congr_left fun y hy => ?_
    obtain ⟨c, _, rfl⟩ := List.mem_map.mp ((hm y).mp hy)
    rfl
  refine ⟨zs.map f, e, ?_, fun c => ?_, ?_⟩
  · have nd : zs.Nodup := p.symm.nodup (tAll_nodup _)
    have nd2 : (zs.map f).Nodup := by
      rw [e] at nd
      exact (List.pairwise_map.mp nd).imp fun h e => h (congrArg sg e)
    refine rise_of (sortedS_sg ?_) nd2
    rw [← e]
    exact s
  · have q := hm (sg c)
    constructor
    · intro h
      have : sg c ∈ zs := by
        rw [e]
        exact List.mem_map.mpr ⟨c, h, rfl⟩
      obtain ⟨d, hd, ed⟩ := List.mem_map.mp (q.mp this)
      have : d = c := by
        have := congrArg (fun y : Str => y.cps.getD 0 0) ed
        exact this
      exact this ▸ hd
    · intro h
      have := q.mpr (List.mem_map.mpr ⟨c, h, rfl⟩)
      exact List.mem_map.mpr ⟨sg c, this, rfl⟩
  · rw [List.length_map, p.length_eq]
    have := tAll_len (cs.map sg)
    rw [List.length_map] at this
    exact this
theorem az_at {g : Nat} (h : g < 26) : ("abcdefghijklmnopqrstuvwxyz" : Str).cps.toList[g]? = some (97 + g) := by
  have e : ("abcdefghijklmnopqrstuvwxyz" : Str).cps.toList = (List.range 26).map (97 + ·) := by decide +kernel
  rw [e, List.getElem?_map, List.getElem?_range h]
  rfl
theorem dpAll_str {K : PySem.W.Frag} {H : Hp} : ∀ xs : List Str, DpAll K H (xs.map V.str) (xs.map PyData.str)
  | [] => .nil
  | c :: r => .cons (.str _) (dpAll_str r)
theorem canAll_str : ∀ xs : List Str, (∀ x ∈ xs, PyData.strOk x = true) → PyData.canLayAll0 (xs.map PyData.str) = true
  | [], _ => rfl
  | x :: r, h => by
    have h1 := h x List.mem_cons_self
    have h2 := canAll_str r fun y hy => h y (List.mem_cons_of_mem _ hy)
    simp [PyData.canLayAll0, PyData.canLay0, h1, h2]
theorem depthAll_str : ∀ xs : List Str, PyData.depthAll (xs.map PyData.str) = 0
  | [] => rfl
  | _ :: r => by simp [PyData.depthAll, PyData.depth, depthAll_str r]
theorem shaped_strs (xs : List Str) (h : ∀ x ∈ xs, PyData.strOk x = true) : SeqAt.shaped (.list (xs.map PyData.str)) = true := by
  simp [SeqAt.shaped, PyData.canLay0, PyData.depth, canAll_str xs h, depthAll_str]
theorem strOk_sg {c : Nat} (h : c ≤ 122) : PyData.strOk (sg c) = true := by
  have : c < 0x110000 := by omega
  simp [PyData.strOk, this]
/-! ### rules -/
structure Grd where
  how : Str
  wh : Str
  sm : List Nat
inductive Rul where
  | one (x y : Nat) (g : Option Grd)
  | two (x y u v : Nat)
  | call (x y : Nat) (im : List Nat)
def GrdAt (H : Hp) (v : V) : Option Grd → Prop
  | none => v = .non
  | some G => ∃ g, v = .ref g ∧ H g = some (.tup [.str G.how, .str G.wh, .str ⟨G.sm.toArray⟩])
def RulAt (H : Hp) (p : Addr) : Rul → Prop
  | .one x y g => ∃ v, H p = some (.tup [.str "one", .str (sg x), .str (sg y), v]) ∧ GrdAt H v g
  | .two x y u v => H p = some (.tup [.str "two", .str (sg x), .str (sg y), .str (sg u), .str (sg v)])
  | .call x y im => H p = some (.tup [.str "call", .str (sg x), .str (sg y), .str ⟨im.toArray⟩])
theorem GrdAt.mono {H H' : Hp} {v : V} {g : Option Grd} (t : Tups H H') (h : GrdAt H v g) : GrdAt H' v g := by
  cases g with
  | none => exact h
  | some G =>
    obtain ⟨g, e, q⟩ := h
    exact ⟨g, e, t _ _ q⟩
theorem RulAt.mono {H H' : Hp} {p : Addr} {R : Rul} (t : Tups H H') (h : RulAt H p R) : RulAt H' p R := by
  cases R with
  | one x y g =>
    obtain ⟨v, e, q⟩ := h
    exact ⟨v, t _ _ e, q.mono t⟩
  | two x y u v => exact t _ _ h
  | call x y im => exact t _ _ h
structure Grd.Ok (G : Grd) (z sh : Str) : Prop where
  how : G.how = "all" ∨ G.how = "some"
  wh : G.wh = "left" ∨ G.wh = "right" ∨ G.wh = "others"
  ring : sh = "ring" → G.wh = "others"
  sm : ∀ c ∈ G.sm, c ∈ z.cps.toList
  one : 1 ≤ G.sm.length ∧ G.sm.length ≤ 100
def Rul.Ok (z sh : Str) : Rul → Prop
  | .one x y g => x ∈ z.cps.toList ∧ y ∈ z.cps.toList ∧ ∀ G, g = some G → G.Ok z sh
  | .two x y u v => x ∈ z.cps.toList ∧ y ∈ z.cps.toList ∧ u ∈ z.cps.toList ∧ v ∈ z.cps.toList
  | .call x y im => x ∈ z.cps.toList ∧ y ∈ z.cps.toList ∧ im.length = z.length ∧ ∀ c ∈ im, c ∈ z.cps.toList
def Rul.Kind (n : Int) : Rul → Prop
  | .one _ _ _ => n ≠ 0 ∧ n ≠ 1
  | .two _ _ _ _ => n = 0
  | .call _ _ _ => n = 1
theorem three_at {g : Int} (h0 : 0 ≤ g) (h1 : g < 3) : ∃ x : Str, atI [V.str "left", V.str "right", V.str "others"] g = some (.str x) ∧ (x = "left" ∨ x = "right" ∨ x = "others") := by
  have : g = 0 ∨ g = 1 ∨ g = 2 := by omega
  rcases this with rfl | rfl | rfl
  · exact ⟨_, rfl, .inl rfl⟩
  · exact ⟨_, rfl, .inr (.inl rfl)⟩
  · exact ⟨_, rfl, .inr (.inr rfl)⟩
theorem two_at {g : Int} {a b : Str} (h0 : 0 ≤ g) (h1 : g < 2) : ∃ x : Str, atI [V.str a, V.str b] g = some (.str x) ∧ (x = a ∨ x = b) := by
  have : g = 0 ∨ g = 1 := by omega
  rcases this with rfl | rfl
  · exact ⟨_, rfl, .inl rfl⟩
  · exact ⟨_, rfl, .inr rfl⟩
end LH

namespace LH
open PySem PySem.Spec PyProof.Rows L2
/-! ### words as lists of signs -/
abbrev tx (cs : List Nat) : Str := ⟨cs.toArray⟩
abbrev tv (ws : List (List Nat)) : List V := ws.map fun cs => V.str (tx cs)
theorem tx_len (cs : List Nat) : (tx cs).length = cs.length := List.size_toArray
theorem tv_str (ws : List (List Nat)) : tv ws = (ws.map tx).map V.str := by
  rw [List.map_map]
  rfl
theorem tv_snoc (ws : List (List Nat)) (cs : List Nat) : tv ws ++ [V.str (tx cs)] = tv (ws ++ [cs]) := by
  show _ = List.map _ (ws ++ [cs])
  rw [List.map_append]
  rfl
theorem cut_lo (cs : List Nat) (i : Nat) : cutS (tx cs) none (some (i : Int)) = tx (cs.take i) := by
  have := cut_to cs i
  unfold cutS
  rw [tx_len]
  exact congrArg tx this
theorem cut_hi (cs : List Nat) (i : Nat) : cutS (tx cs) (some ((i : Int) + 1)) none = tx (cs.drop (i + 1)) := by
  have := cut_from cs (i + 1)
  unfold cutS
  rw [tx_len]
  exact congrArg tx this
theorem tx_app (a b : List Nat) : tx a ++ tx b = tx (a ++ b) := by
  show (⟨a.toArray ++ b.toArray⟩ : Str) = ⟨(a ++ b).toArray⟩
  congr 1
  apply Array.ext'
  simp
theorem tx_set {cs : List Nat} {i : Nat} (h : i < cs.length) (y : Nat) : tx (cs.take i) ++ sg y ++ tx (cs.drop (i + 1)) = tx (cs.set i y) := by
  show tx (cs.take i) ++ tx [y] ++ tx (cs.drop (i + 1)) = _
  rw [tx_app, tx_app, List.set_eq_take_append_cons_drop, if_pos h, List.append_assoc]
  rfl
theorem str_eq {a b : Str} : decide (V.str a = V.str b) = decide (a = b) := by
  by_cases h : a = b
  · rw [h]
    simp
  · rw [decide_eq_false h, decide_eq_false fun e => h (V.str.inj e)]
theorem sg_eq {a b : Nat} : decide (V.str (sg a) = V.str (sg b)) = decide (a = b) := by
  rw [str_eq]
  by_cases h : a = b
  · rw [h]
    simp
  · rw [decide_eq_false h, decide_eq_false fun e => h ?_]
    have := congrArg (fun y : Str => y.cps.getD 0 0) e
    exact this
/-! ### one hand -/
def gSee (G : Grd) (cs : List Nat) (i : Nat) : List Nat := (if G.wh = "right" then [] else cs.take i) ++ (if G.wh = "left" then [] else cs.drop (i + 1))
def gOk (cs : List Nat) (i : Nat) : Option Grd → Bool
  | none => true
  | some G => if G.how = "all" then (gSee G cs i).all (fun c => decide (c ∈ G.sm)) else (gSee G cs i).any (fun c => decide (c ∈ G.sm))
theorem gOk_all {G : Grd} {cs : List Nat} {i : Nat} (h : G.how = "all") : gOk cs i (some G) = (gSee G cs i).all (fun c => decide (c ∈ G.sm)) := if_pos h
theorem gOk_any {G : Grd} {cs : List Nat} {i : Nat} (h : ¬ G.how = "all") : gOk cs i (some G) = (gSee G cs i).any (fun c => decide (c ∈ G.sm)) := if_neg h
def aOne (x y : Nat) (g : Option Grd) (cs : List Nat) (n : Nat) : List (List Nat) := ((List.range n).filter fun i => decide (cs[i]? = some x) && gOk cs i g).map fun i => cs.set i y
theorem filt_succ {β : Type} (p : Nat → Bool) (f : Nat → β) (n : Nat) : ((List.range (n + 1)).filter p).map f = ((List.range n).filter p).map f ++ if p n = true then [f n] else [] := by
  rw [List.range_succ, List.filter_append, List.map_append]
  congr 1
  by_cases h : p n = true
  · rw [if_pos h, List.filter_cons_of_pos (by exact h)]
    rfl
  · rw [if_neg h, List.filter_cons_of_neg (by exact h)]
    rfl
theorem aOne_succ (x y : Nat) (g : Option Grd) (cs : List Nat) (n : Nat) : aOne x y g cs (n + 1) = aOne x y g cs n ++ if (decide (cs[n]? = some x) && gOk cs n g) = true then [cs.set n y] else [] := filt_succ _ _ n
theorem filter_len {α β : Type} (p : α → Bool) (f : α → β) (l : List α) : ((l.filter p).map f).length ≤ l.length := by
  rw [List.length_map]
  exact List.length_filter_le _ _
/-! ### what is made: a place and a word -/
def mOne (x y : Nat) (g : Option Grd) (cs : List Nat) (n : Nat) : List (Nat × List Nat) := ((List.range n).filter fun i => decide (cs[i]? = some x) && gOk cs i g).map fun i => (i, cs.set i y)
theorem mOne_succ (x y : Nat) (g : Option Grd) (cs : List Nat) (n : Nat) : mOne x y g cs (n + 1) = mOne x y g cs n ++ if (decide (cs[n]? = some x) && gOk cs n g) = true then [(n, cs.set n y)] else [] := filt_succ _ _ n
theorem mOne_snd (x y : Nat) (g : Option Grd) (cs : List Nat) (n : Nat) : (mOne x y g cs n).map Prod.snd = aOne x y g cs n := by
  unfold mOne aOne
  rw [List.map_map]
  rfl
def MdAt (H : Hp) (as : List Addr) (ms : List (Nat × List Nat)) : Prop := as.length = ms.length ∧ ∀ (i : Nat) (a : Addr) (m : Nat × List Nat), as[i]? = some a → ms[i]? = some m → H a = some (.tup [.int (m.1 : Int), .str (tx m.2)])
theorem MdAt.mono {H H' : Hp} {as : List Addr} {ms : List (Nat × List Nat)} (t : Tups H H') (h : MdAt H as ms) : MdAt H' as ms := ⟨h.1, fun i a m x y => t _ _ (h.2 i a m x y)⟩
theorem MdAt.nil {H : Hp} : MdAt H [] [] := ⟨rfl, fun i a m x => by simp at x⟩
theorem MdAt.snoc {H : Hp} {as : List Addr} {ms : List (Nat × List Nat)} {a : Addr} {m : Nat × List Nat} (h : MdAt H as ms) (ha : H a = some (.tup [.int (m.1 : Int), .str (tx m.2)])) : MdAt H (as ++ [a]) (ms ++ [m]) := by
  refine ⟨by rw [List.length_append, List.length_append, h.1]; rfl, fun i b r x y => ?_⟩
  by_cases hi : i < as.length
  · rw [List.getElem?_append_left hi] at x
    rw [List.getElem?_append_left (by rw [← h.1]; exact hi)] at y
    exact h.2 i b r x y
  · rw [List.getElem?_append_right (by omega)] at x
    rw [List.getElem?_append_right (by rw [← h.1]; omega), ← h.1] at y
    have e : i - as.length = 0 := by
      cases q : i - as.length with
      | zero => rfl
      | succ k =>
        rw [q] at x
        simp at x
    rw [e] at x y
    cases x
    cases y
    exact ha
/-- one more pair, at p, behind the list at l -/
theorem md_more {H H2 : Hp} {l p : Addr} {as : List Addr} {ms : List (Nat × List Nat)} {i : Nat} {ds : List Nat} {v : V} (s : Same H H2) (nl : H l = none) (e : H2 l = some (.lst (vr as))) (m : MdAt H2 as ms) (np : H2 p = none) (hv : v = .str (tx ds)) :
    Same H (upd (upd H2 p (.tup [.int (i : Int), v])) l (.lst (vr as ++ [.ref p]))) ∧ ∃ bs, (upd (upd H2 p (.tup [.int (i : Int), v])) l (.lst (vr as ++ [.ref p]))) l = some (.lst (vr bs)) ∧ MdAt (upd (upd H2 p (.tup [.int (i : Int), v])) l (.lst (vr as ++ [.ref p]))) bs (ms ++ [(i, ds)]) := by
  subst hv
  have e2 : (upd H2 p (.tup [.int (i : Int), .str (tx ds)])) l = some (.lst (vr as)) := (same_new np) _ _ e
  have h2 : (upd H2 p (.tup [.int (i : Int), .str (tx ds)])) p = some (.tup [.int (((i, ds) : Nat × List Nat).1 : Int), .str (tx ((i, ds) : Nat × List Nat).2)]) := upd_same
  refine ⟨fun b o hb => ?_, as ++ [p], ?_, ((m.mono (Tups.new np)).snoc h2).mono (Tups.lst e2)⟩
  · rw [upd_ne (ne_of_none hb nl)]
    exact (same_new np) _ _ (s b o hb)
  · rw [upd_same, vr_snoc]
section
variable {P : Program} {w : World} {K : PySem.W.Frag} {mg : Str → Option Value} {base : Heap}
def sp_holds : Sp := fun vs H Q _ => ∃ (v : V) (g : Option Grd) (cs : List Nat) (i : Nat), vs = [v, .str (tx cs), .int (i : Int)] ∧ GrdAt H v g ∧ i < cs.length ∧ cs.length ≤ 100 ∧ ∀ H', Same H H' → Q (.bl (gOk cs i g)) H'
theorem ok_holds (T : TX K mg) : FnOk P w K mg base CX0 1 T.a_holds T.fd_holds ["guard", "word", "at"] sp_holds := by
  refine T.F_holds.ok sc_holds (fun vs H Q E h => ?_) (fun cdv A outer s H vs Q E hr h => ?_)
  · obtain ⟨v, g, cs, i, rfl, _⟩ := h
    rfl
  · obtain ⟨v, g, cs, i, rfl, hg, hi, hl, q⟩ := h
    refine ⟨_, (pss_cons (ps_if (pt_cmpR op_isN (pv 0) pe_non (nomark _))
        (pss_one (ps_ret pe_bl))
        pss_nil)
      (pss_cons (ps_asg (pv 0) (pg_tupK (n := 3) K rfl (by rfl) (pgs_cons (pg_name (i := 3) sc_holds.nd rfl (Or.inl rfl)) (pgs_cons (pg_name (i := 4) sc_holds.nd rfl (Or.inl rfl)) (pgs_cons (pg_name (i := 5) sc_holds.nd rfl (Or.inr rfl)) pgs_nil)))))
      (pss_cons (ps_set (i := 6) sc_holds.nd rfl (Or.inl rfl) (pe_pure (pe_ifExp (pt_cmpR op_ne (pv 4) pe_str (nomark _)) (pe_slice sl_str (pv 1) po_none (po_some (pv 2))) pe_str)))
      (pss_cons (ps_set (i := 7) sc_holds.nd rfl (Or.inl rfl) (pe_pure (pe_ifExp (pt_cmpR op_ne (pv 4) pe_str (nomark _)) (pe_slice sl_str (pv 1) (po_some (pe_op op_add (pv 2) pe_int)) po_none) pe_str)))
      (pss_cons (ps_setLc (i := 8) (own := [("letter", 9)]) (g := gName 9) (tt := tYes) (by rfl) sc_holds.nd rfl rfl (sw_true rfl rfl rfl (by decide +kernel)) (pi_str (pe_op op_add_str (pv 6) (pv 7))) (blkOk_by (own := [("letter", 9)]) (N := N_holds) (by kernel_rfl)) (fun _ _ _ _ _ => (pg_name (i := 9) sc_holds.nd rfl (Or.inl rfl))) (fun _ _ _ _ _ => pts_nil) (fun _ _ _ _ _ => (pe_cmpR op_in_sign (pv 9) (pv 5) (by rfl))))
      (pss_one (ps_ret (pe_pure (pe_ifExp (pt_cmpR op_eq (pv 3) pe_str (nomark _)) (pe_callB (cr_allK K rfl rfl) (by rfl) T.m_all (by decide +kernel) (pa_cons (pv 8) pa_nil)) (pe_callB (cr_anyK K rfl rfl) (by rfl) T.m_any (by decide +kernel) (pa_cons (pv 8) pa_nil))))))))))), ?_⟩
    have wl : (tx cs).length ≤ sizeLine := by
      rw [tx_len]
      exact Nat.le_trans hl (by decide)
    cases g with
    | none =>
      obtain rfl : v = .non := hg
      exact ⟨.non, rfl, rfl, _, rfl, iteT (q _ fun _ _ e => e)⟩
    | some G =>
      obtain ⟨gp, rfl, e⟩ := hg
      refine ⟨.ref gp, rfl, rfl, _, rfl, iteF ?_⟩
      refine ⟨.ref gp, rfl, gp, [.str G.how, .str G.wh, .str ⟨G.sm.toArray⟩], rfl, .inl (.inl e), rfl, .str G.how, _, rfl, .str G.wh, _, rfl, .str ⟨G.sm.toArray⟩, [], rfl, rfl, ?_⟩
      -- left, right
      refine ⟨.str (tx (if G.wh = "right" then [] else cs.take i)), ⟨.str G.wh, rfl, rfl, _, rfl, ?_⟩, ?_⟩
      · rw [str_eq]
        by_cases hw : G.wh = "right"
        · rw [decide_eq_true hw, if_pos hw]
          exact ⟨rfl, rfl⟩
        · rw [decide_eq_false hw, if_neg hw]
          refine ⟨.str (tx cs), rfl, .int (i : Int), rfl, (i : Int), rfl, tx cs, rfl, wl, ?_, rfl⟩
          rw [cut_lo]
      refine ⟨.str (tx (if G.wh = "left" then [] else cs.drop (i + 1))), ⟨.str G.wh, rfl, rfl, _, rfl, ?_⟩, ?_⟩
      · rw [str_eq]
        by_cases hw : G.wh = "left"
        · rw [decide_eq_true hw, if_pos hw]
          exact ⟨rfl, rfl⟩
        · rw [decide_eq_false hw, if_neg hw]
          refine ⟨.str (tx cs), rfl, .int (i : Int), rfl, (i : Int), 1, rfl, rfl, (i : Int) + 1, rfl, tx cs, rfl, wl, ?_, rfl⟩
          rw [cut_hi]
      have see : (gSee G cs i).length ≤ 200 := by
        unfold gSee
        rw [List.length_append]
        have a1 : (if G.wh = "right" then [] else cs.take i).length ≤ 100 := by
          split
          · exact Nat.zero_le _
          · exact Nat.le_trans (List.length_take_le _ _) (by omega)
        have a2 : (if G.wh = "left" then [] else cs.drop (i + 1)).length ≤ 100 := by
          split
          · exact Nat.zero_le _
          · rw [List.length_drop]
            omega
        omega
      refine ⟨.str _, rfl, .str _, rfl, _, _, rfl, rfl, ?_, tx (gSee G cs i), ?_, fun D nD => ?_⟩
      · rw [tx_len, tx_len, ← List.length_append]
        exact Nat.le_trans see (by decide)
      · show V.str (tx _ ++ tx _) = _
        rw [tx_app]
        rfl
      refine lc_it walk_str (fun k H' => Same H H' ∧ H' D = some (.lst (((gSee G cs i).take k).map fun c => V.bl (decide (c ∈ G.sm))))) ⟨same_new nD, upd_same⟩ (fun _ _ _ _ => trivial) (fun k v H1 H1' hk hW hY => ?_) (fun H1 hW => ?_)
      · obtain ⟨s1, e1⟩ := hW
        obtain ⟨rfl, c, hc, rfl⟩ := hY
        have hc' : (gSee G cs i)[k]? = some c := by
          rw [← hc]
          simp
        refine ⟨rfl, lcyes ?_⟩
        refine ⟨.str (sg c), rfl, .str ⟨G.sm.toArray⟩, rfl, c, _, rfl, rfl, _, e1, ?_, ?_, ?_⟩
        · rw [List.length_map]
          have h9 : ((gSee G cs i).take k).length ≤ (gSee G cs i).length := by
            rw [List.length_take]
            exact Nat.min_le_right _ _
          exact small1000 (by omega)
        · intro b o e
          rw [upd_ne (ne_of_none e nD)]
          exact s1 b o e
        · rw [upd_same, List.take_add_one, hc', List.map_append]
          rfl
      · obtain ⟨s1, e1⟩ := hW
        have e1 : H1 D = some (.lst (((gSee G cs i).map fun c => decide (c ∈ G.sm)).map V.bl)) := by
          rw [e1, List.take_of_length_le (by rw [List.size_toArray]; exact Nat.le_refl _), List.map_map]
          rfl
        refine ⟨.bl (gOk cs i (some G)), ⟨.str G.how, rfl, rfl, _, rfl, ?_⟩, q _ s1⟩
        rw [str_eq]
        by_cases hh : G.how = "all"
        · rw [decide_eq_true hh]
          refine ⟨.ref D, rfl, D, _, rfl, .inl (.inl e1), ?_, rfl⟩
          rw [gOk_all hh, List.all_map]
          rfl
        · rw [decide_eq_false hh]
          refine ⟨.ref D, rfl, D, _, rfl, .inl (.inl e1), ?_, rfl⟩
          rw [gOk_any hh, List.any_map]
          rfl
/-! ### made_by_one -/
def sp_made_by_one : Sp := fun vs H Q _ => ∃ (p : Addr) (x y : Nat) (g : Option Grd) (cs : List Nat), vs = [.ref p, .str (tx cs)] ∧ RulAt H p (.one x y g) ∧ cs.length ≤ 100 ∧ ∀ H' l as, Same H H' → H l = none → H' l = some (.lst (vr as)) → MdAt H' as (mOne x y g cs cs.length) → Q (.ref l) H'
theorem ok_made_by_one (T : TX K mg) : FnOk P w K mg base CX0 2 T.a_made_by_one T.fd_made_by_one ["rule", "word"] sp_made_by_one := by
  have G_holds : FnOk P w K mg base CX0 1 T.a_holds T.fd_holds ["guard", "word", "at"] sp_holds := ok_holds T
  refine T.F_made_by_one.ok sc_made_by_one (fun vs H Q E h => ?_) (fun cdv A outer s H vs Q E hr h => ?_)
  · obtain ⟨p, x, y, g, cs, rfl, _⟩ := h
    rfl
  · obtain ⟨p, x, y, g, cs, rfl, ⟨v, hp, hg⟩, hl, q⟩ := h
    refine ⟨_, (pss_cons (ps_asg (pv 0) (pg_tupK (n := 4) K rfl (by rfl) (pgs_cons (pg_name (i := 2) sc_made_by_one.nd rfl (Or.inl rfl)) (pgs_cons (pg_name (i := 3) sc_made_by_one.nd rfl (Or.inl rfl)) (pgs_cons (pg_name (i := 4) sc_made_by_one.nd rfl (Or.inl rfl)) (pgs_cons (pg_name (i := 5) sc_made_by_one.nd rfl (Or.inl rfl)) pgs_nil))))))
      (pss_cons (ps_set (i := 6) sc_made_by_one.nd rfl (Or.inl rfl) (pe_lst pa_nil))
      (pss_cons (ps_for PassesOwn.never rfl (pi_enumS (by rfl) T.m_enumerate (pa_cons (pv 1) pa_nil)) (pg_tupK (n := 2) K rfl (by rfl) (pgs_cons (pg_name (i := 7) sc_made_by_one.nd rfl (Or.inl rfl)) (pgs_cons (pg_name (i := 8) sc_made_by_one.nd rfl (Or.inl rfl)) pgs_nil)))
        (pss_one (ps_if (PW.pt (pw_and (pt_cmpR op_eq (pv 8) (pv 3) (nomark _)) (pw_and1 (pt_val (pe_call G_holds (hr.mono (by decide)) (by rfl) T.g_holds T.F_holds.kp T.b_holds .nil pass0 (pa_cons (pv 5) (pa_cons (pv 1) (pa_cons (pv 7) pa_nil))))))))
            (pss_one (ps_expr (pe_bmK K rfl PySem.F.plainAttrs_list PySem.F.slot_list_append PySem.F.type_list_append mt_append (pv 6) (pa_cons (pe_tup (pa_cons (pv 7) (pa_cons (pe_op op_add_str (pe_op op_add_str (pe_slice sl_str (pv 1) po_none (po_some (pv 7))) (pv 4)) (pe_slice sl_str (pv 1) (po_some (pe_op op_add (pv 7) pe_int)) po_none)) pa_nil))) pa_nil))))
            pss_nil)))
      (pss_one (ps_ret (pv 6)))))), ?_⟩
    have wl : (tx cs).length ≤ sizeLine := by
      rw [tx_len]
      exact Nat.le_trans hl (by decide)
    refine ⟨.ref p, rfl, p, [.str "one", .str (sg x), .str (sg y), v], rfl, .inl (.inl hp), rfl, .str "one", _, rfl, .str (sg x), _, rfl, .str (sg y), _, rfl, v, [], rfl, rfl, ?_⟩
    refine ⟨by show 0 ≤ sizeLine; decide, fun l nl => ?_⟩
    refine ⟨.str (tx cs), rfl, tx cs, rfl, ?_⟩
    refine for_it walk_Itp (fun i σ H' => (Same H H' ∧ ∃ as, H' l = some (.lst (vr as)) ∧ MdAt H' as (mOne x y g cs i)) ∧ ∃ y7 y8, σ = [some (.ref p), some (.str (tx cs)), some (.str "one"), some (.str (sg x)), some (.str (sg y)), some v, some (.ref l), y7, y8]) ⟨⟨same_new nl, [], upd_same, MdAt.nil⟩, none, none, rfl⟩ (fun _ _ _ _ _ => trivial) (fun i u σ H1 H1' hi hW hY => ?_) (fun σ H1 hW => ?_)
    · obtain ⟨⟨s1, as, e1, m1⟩, y7, y8, rfl⟩ := hW
      obtain ⟨t, u1, u2, rfl, nt, rfl, h1, h2⟩ := hY
      cases h1
      obtain ⟨c, hc, rfl⟩ : ∃ c, cs[i]? = some c ∧ u2 = .str (sg c) := by
        unfold signAt at h2
        rw [show (tx cs).cps[i]? = cs[i]? by simp] at h2
        cases hc : cs[i]? with
        | none =>
          rw [hc] at h2
          cases h2
        | some c =>
          rw [hc] at h2
          cases h2
          exact ⟨c, rfl, rfl⟩
      have hi' : i < cs.length := (List.getElem?_eq_some_iff.mp hc).1
      have s2 : Same H (upd H1 t (.tup [.int (i : Nat), .str (sg c)])) := s1.trans (same_new nt)
      have e2 : (upd H1 t (.tup [.int (i : Nat), .str (sg c)])) l = some (.lst (vr as)) := (same_new nt) _ _ e1
      have et : (upd H1 t (.tup [.int (i : Nat), .str (sg c)])) t = some (.tup [.int (i : Nat), .str (sg c)]) := upd_same
      have m2 : MdAt (upd H1 t (.tup [.int (i : Nat), .str (sg c)])) as (mOne x y g cs i) := m1.mono (Tups.new nt)
      generalize upd H1 t (.tup [.int (i : Nat), .str (sg c)]) = H2 at s2 e2 et m2
      have hcx : decide (cs[i]? = some x) = decide (c = x) := by
        rw [hc]
        by_cases e : c = x
        · rw [e]
          simp
        · rw [decide_eq_false e, decide_eq_false fun h => e (Option.some.inj h)]
      refine ⟨t, [.int (i : Nat), .str (sg c)], rfl, .inl (.inl et), rfl, .int (i : Nat), _, rfl, .str (sg c), [], rfl, rfl, ?_⟩
      refine ⟨.str (sg c), rfl, .str (sg x), rfl, rfl, _, rfl, ?_⟩
      rw [sg_eq]
      by_cases ex : c = x
      · rw [decide_eq_true ex]
        refine ⟨v, rfl, .str (tx cs), rfl, .int (i : Nat), rfl, v, g, cs, i, rfl, hg.mono (Tups.same s2), hi', hl, fun H3 s3 => ⟨gOk cs i g, rfl, ite2 (fun e => ?_) (fun e => ?_)⟩⟩
        · have e3 := s3 _ _ e2
          have w1 : (tx (cs.take i)).length + (sg y).length ≤ sizeLine := by
            rw [tx_len]
            have := List.length_take_le i cs
            exact Nat.le_of_lt (small1000 (show (cs.take i).length + 1 ≤ 1000 by omega))
          have w2 : (tx (cs.take i) ++ sg y).length + (tx (cs.drop (i + 1))).length ≤ sizeLine := by
            rw [show sg y = tx [y] from rfl, tx_app, tx_len, tx_len, List.length_append, List.length_drop]
            have := List.length_take_le i cs
            exact Nat.le_of_lt (small1000 (show (cs.take i).length + 1 + (cs.length - (i + 1)) ≤ 1000 by omega))
          refine ⟨.ref l, rfl, .inl ⟨rfl, _, .inl (.inl e3)⟩, .int (i : Nat), rfl, .str (tx cs), rfl, .int (i : Nat), rfl, (i : Int), rfl, tx cs, rfl, wl, .str (sg y), rfl, tx (cs.take i), sg y, by rw [cut_lo], rfl, w1, .str (tx cs), rfl, .int (i : Nat), rfl, (i : Int), 1, rfl, rfl, (i : Int) + 1, rfl, tx cs, rfl, wl, tx (cs.take i) ++ sg y, tx (cs.drop (i + 1)), rfl, by rw [cut_hi], w2, by show 2 ≤ sizeLine; decide, fun p2 n2 => ?_⟩
          refine ⟨l, vr as, .ref p2, rfl, rfl, (same_new n2) _ _ e3, ?_, ?_, _, _, rfl⟩
          · rw [List.length_map, m2.1]
            have : (mOne x y g cs i).length ≤ i := by
              have := filter_len (fun i => decide (cs[i]? = some x) && gOk cs i g) (fun i => (i, cs.set i y)) (List.range i)
              rw [List.length_range] at this
              exact this
            exact small1000 (by omega)
          · rw [mOne_succ, hcx, decide_eq_true ex, Bool.true_and, if_pos e]
            exact md_more (s2.trans s3) nl e3 (m2.mono (Tups.same s3)) n2 (by rw [tx_set hi'])
        · refine ⟨⟨s2.trans s3, as, s3 _ _ e2, ?_⟩, _, _, rfl⟩
          rw [mOne_succ, hcx, decide_eq_true ex, Bool.true_and, if_neg e, List.append_nil]
          exact m2.mono (Tups.same s3)
      · rw [decide_eq_false ex]
        refine ⟨⟨s2, as, e2, ?_⟩, _, _, rfl⟩
        rw [mOne_succ, hcx, decide_eq_false ex, Bool.false_and, if_neg Bool.false_ne_true, List.append_nil]
        exact m2
    · obtain ⟨⟨s1, as, e1, m1⟩, y7, y8, rfl⟩ := hW
      have : (tx cs).cps.size = cs.length := List.size_toArray
      rw [this] at m1
      exact ⟨.ref l, rfl, q _ _ as s1 nl e1 m1⟩
end
end LH

namespace LH
open PySem PySem.Spec PyProof.Rows L2
theorem ixN_of {n j : Nat} (h : j < n) : ixN n (j : Int) = some j := by
  unfold ixN
  rw [if_pos (by omega), if_pos (by omega)]
  simp
/-! ### two neighbours -/
def prs (sh : Str) (n : Nat) : List (Nat × Nat) := (List.range (n - 1)).map (fun i => (i, i + 1)) ++ if sh = "ring" ∧ 1 < n then [(n - 1, 0)] else []
def PrsAt (H : Hp) (as : List Addr) (ps : List (Nat × Nat)) : Prop := as.length = ps.length ∧ ∀ (i : Nat) (a : Addr) (p : Nat × Nat), as[i]? = some a → ps[i]? = some p → H a = some (.tup [.int (p.1 : Int), .int (p.2 : Int)])
theorem PrsAt.mono {H H' : Hp} {as : List Addr} {ps : List (Nat × Nat)} (t : Tups H H') (h : PrsAt H as ps) : PrsAt H' as ps := ⟨h.1, fun i a p x y => t _ _ (h.2 i a p x y)⟩
theorem PrsAt.nil {H : Hp} : PrsAt H [] [] := ⟨rfl, fun i a p x => by simp at x⟩
theorem PrsAt.snoc {H : Hp} {as : List Addr} {ps : List (Nat × Nat)} {a : Addr} {p : Nat × Nat} (h : PrsAt H as ps) (ha : H a = some (.tup [.int (p.1 : Int), .int (p.2 : Int)])) : PrsAt H (as ++ [a]) (ps ++ [p]) := by
  refine ⟨by rw [List.length_append, List.length_append, h.1]; rfl, fun i b r x y => ?_⟩
  by_cases hi : i < as.length
  · rw [List.getElem?_append_left hi] at x
    rw [List.getElem?_append_left (by rw [← h.1]; exact hi)] at y
    exact h.2 i b r x y
  · rw [List.getElem?_append_right (by omega)] at x
    rw [List.getElem?_append_right (by rw [← h.1]; omega), ← h.1] at y
    have e : i - as.length = 0 := by
      cases q : i - as.length with
      | zero => rfl
      | succ k =>
        rw [q] at x
        simp at x
    rw [e] at x y
    cases x
    cases y
    exact ha
theorem prs_lt {sh : Str} {n : Nat} {p : Nat × Nat} (h : p ∈ prs sh n) : p.1 < n ∧ p.2 < n := by
  unfold prs at h
  rcases List.mem_append.mp h with h | h
  · obtain ⟨i, hi, rfl⟩ := List.mem_map.mp h
    have := List.mem_range.mp hi
    exact ⟨show i < n by omega, show i + 1 < n by omega⟩
  · split at h
    · rename_i c
      obtain rfl := List.mem_singleton.mp h
      exact ⟨show n - 1 < n by omega, show 0 < n by omega⟩
    · cases h
theorem prs_len (sh : Str) (n : Nat) : (prs sh n).length ≤ n := by
  unfold prs
  rw [List.length_append, List.length_map, List.length_range]
  split
  · show n - 1 + 1 ≤ n
    omega
  · show n - 1 + 0 ≤ n
    omega
def aTwo (x y u v : Nat) (cs : List Nat) (ps : List (Nat × Nat)) : List (List Nat) := (ps.filter fun p => decide (cs[p.1]? = some x) && decide (cs[p.2]? = some y)).map fun p => (cs.set p.1 u).set p.2 v
theorem aTwo_snoc (x y u v : Nat) (cs : List Nat) (ps : List (Nat × Nat)) (p : Nat × Nat) : aTwo x y u v cs (ps ++ [p]) = aTwo x y u v cs ps ++ if (decide (cs[p.1]? = some x) && decide (cs[p.2]? = some y)) = true then [(cs.set p.1 u).set p.2 v] else [] := by
  unfold aTwo
  rw [List.filter_append, List.map_append]
  congr 1
  by_cases h : (decide (cs[p.1]? = some x) && decide (cs[p.2]? = some y)) = true
  · rw [if_pos h, List.filter_cons_of_pos (by exact h)]
    rfl
  · rw [if_neg h, List.filter_cons_of_neg (by exact h)]
    rfl
def mTwo (x y u v : Nat) (cs : List Nat) (ps : List (Nat × Nat)) : List (Nat × List Nat) := (ps.filter fun p => decide (cs[p.1]? = some x) && decide (cs[p.2]? = some y)).map fun p => (p.1, (cs.set p.1 u).set p.2 v)
theorem mTwo_snoc (x y u v : Nat) (cs : List Nat) (ps : List (Nat × Nat)) (p : Nat × Nat) : mTwo x y u v cs (ps ++ [p]) = mTwo x y u v cs ps ++ if (decide (cs[p.1]? = some x) && decide (cs[p.2]? = some y)) = true then [(p.1, (cs.set p.1 u).set p.2 v)] else [] := by
  unfold mTwo
  rw [List.filter_append, List.map_append]
  congr 1
  by_cases h : (decide (cs[p.1]? = some x) && decide (cs[p.2]? = some y)) = true
  · rw [if_pos h, List.filter_cons_of_pos (by exact h)]
    rfl
  · rw [if_neg h, List.filter_cons_of_neg (by exact h)]
    rfl
theorem mTwo_snd (x y u v : Nat) (cs : List Nat) (ps : List (Nat × Nat)) : (mTwo x y u v cs ps).map Prod.snd = aTwo x y u v cs ps := by
  unfold mTwo aTwo
  rw [List.map_map]
  rfl
theorem at_sign {cs : List Nat} {i c x : Nat} (h : cs[i]? = some c) : decide (cs[i]? = some x) = decide (c = x) := by
  rw [h]
  by_cases e : c = x
  · rw [e]
    simp
  · rw [decide_eq_false e, decide_eq_false fun h => e (Option.some.inj h)]
theorem join_vs (cs : List Nat) : Txt.join ⟨#[]⟩ (cs.map sg) = tx cs := join_sg cs
theorem vs_map (cs : List Nat) : vs_ cs = (cs.map sg).map V.str := by
  rw [List.map_map]
  rfl
theorem vs_set (cs : List Nat) (i c : Nat) : (vs_ cs).set i (V.str (sg c)) = vs_ (cs.set i c) := by
  show _ = List.map _ (cs.set i c)
  rw [List.map_set]
/-! ### calls -/
def imOf (z : Str) (im : List Nat) (c : Nat) : Nat := im.getD (z.cps.toList.idxOf c) 0
def aCall (x y : Nat) (z : Str) (im cs : List Nat) (n : Nat) : List (List Nat) := ((List.range n).filter fun i => decide (cs[i]? = some x)).map fun i => (cs.map (imOf z im)).set i y
section
variable {P : Program} {w : World} {K : PySem.W.Frag} {mg : Str → Option Value} {base : Heap}
def sp_pairs_of : Sp := fun vs H Q _ => ∃ (sh : Str) (n : Nat), vs = [.str sh, .int (n : Int)] ∧ n ≤ 100 ∧ ∀ H' l as, Same H H' → H l = none → H' l = some (.lst (vr as)) → PrsAt H' as (prs sh n) → Q (.ref l) H'
theorem ok_pairs_of (T : TX K mg) : FnOk P w K mg base CX0 1 T.a_pairs_of T.fd_pairs_of ["shape", "number"] sp_pairs_of := by
  refine T.F_pairs_of.ok sc_pairs_of (fun vs H Q E h => ?_) (fun cdv A outer s H vs Q E hr h => ?_)
  · obtain ⟨sh, n, rfl, _⟩ := h
    rfl
  · obtain ⟨sh, n, rfl, hn, q⟩ := h
    refine ⟨_, (pss_cons (ps_setLc (i := 2) (own := [("at", 3)]) (g := gName 3) (tt := tYes) (by rfl) sc_pairs_of.nd rfl rfl (sw_true rfl rfl rfl (by decide +kernel)) (pi_range1 (by rfl) T.m_range (pa_cons (pe_op op_sub (pv 1) pe_int) pa_nil)) (blkOk_by (own := [("at", 3)]) (N := N_pairs_of) (by kernel_rfl)) (fun _ _ _ _ _ => (pg_name (i := 3) sc_pairs_of.nd rfl (Or.inl rfl))) (fun _ _ _ _ _ => pts_nil) (fun _ _ _ _ _ => (pe_tup (pa_cons (pv 3) (pa_cons (pe_op op_add (pv 3) pe_int) pa_nil)))))
      (C8.pss_cut (ps_if (PW.pt (pw_and (pt_cmpR op_eq (pv 0) pe_str (nomark _)) (pw_and1 (pt_cmpR op_gt (pv 1) pe_int (nomark _)))))
        (pss_one (ps_expr (pe_bmK K rfl PySem.F.plainAttrs_list PySem.F.slot_list_append PySem.F.type_list_append mt_append (pv 2) (pa_cons (pe_tup (pa_cons (pe_op op_sub (pv 1) pe_int) (pa_cons pe_int pa_nil))) pa_nil))))
        pss_nil)
      (pss_one (ps_ret (pv 2))))), ?_⟩
    refine ⟨.int (n : Int), rfl, (n : Int), 1, rfl, rfl, (n : Int) - 1, rfl, by omega, by omega, fun D nD => ?_⟩
    have en : ((n : Int) - 1).toNat = n - 1 := by omega
    refine lc_range (lo := 0) (n := ((n : Int) - 1).toNat) (fun i H' => ∃ as, Same H H' ∧ H' D = some (.lst (vr as)) ∧ PrsAt H' as ((List.range i).map fun i => (i, i + 1))) ⟨[], same_new nD, upd_same, PrsAt.nil⟩ (fun i H1 hi hW => ?_) (fun H1 hW => ?_)
    · obtain ⟨as, s1, e1, p1⟩ := hW
      refine ⟨rfl, lcyes ?_⟩
      refine ⟨.int (0 + (i : Int)), rfl, .int (0 + (i : Int)), rfl, 0 + (i : Int), 1, rfl, rfl, by show 2 ≤ sizeLine; decide, fun p2 n2 => ?_⟩
      have e2 : (upd H1 p2 (.tup [.int (0 + (i : Int)), .int (0 + (i : Int) + 1)])) D = some (.lst (vr as)) := (same_new n2) _ _ e1
      have h2 : (upd H1 p2 (.tup [.int (0 + (i : Int)), .int (0 + (i : Int) + 1)])) p2 = some (.tup [.int (((i, i + 1) : Nat × Nat).1 : Int), .int (((i, i + 1) : Nat × Nat).2 : Int)]) := by
        rw [upd_same, Int.zero_add]
        rfl
      refine ⟨vr as, e2, ?_, as ++ [p2], ?_, ?_, ?_⟩
      · rw [List.length_map, p1.1, List.length_map, List.length_range]
        exact small1000 (by omega)
      · intro b o e
        rw [upd_ne (ne_of_none e nD)]
        exact (same_new n2) _ _ (s1 b o e)
      · rw [upd_same, vr_snoc]
      · rw [List.range_succ, List.map_append]
        exact ((p1.mono (Tups.new n2)).snoc h2).mono (Tups.lst e2)
    · obtain ⟨as, s1, e1, p1⟩ := hW
      rw [en] at p1
      refine ⟨fun σ' H' => ∃ as, σ' = [some (.str sh), some (.int (n : Int)), some (.ref D), none] ∧ Same H H' ∧ H' D = some (.lst (vr as)) ∧ PrsAt H' as (prs sh n), ?_, fun σ' H' hM => ?_⟩
      · refine ⟨.str sh, rfl, rfl, _, rfl, ?_⟩
        rw [str_eq]
        by_cases hs : sh = "ring"
        · rw [decide_eq_true hs]
          refine ⟨.int (n : Int), rfl, (n : Int), 1, rfl, rfl, _, rfl, ite2 (fun e => ?_) (fun e => ?_)⟩
          · have e : 1 < n := by
              have := of_decide_eq_true e
              omega
            refine ⟨.ref D, rfl, .inl ⟨rfl, _, .inl (.inl e1)⟩, .int (n : Int), rfl, (n : Int), 1, rfl, rfl, by show 2 ≤ sizeLine; decide, fun p2 n2 => ?_⟩
            have e2 : (upd H1 p2 (.tup [.int ((n : Int) - 1), .int 0])) D = some (.lst (vr as)) := (same_new n2) _ _ e1
            have h2 : (upd H1 p2 (.tup [.int ((n : Int) - 1), .int 0])) p2 = some (.tup [.int (((n - 1, 0) : Nat × Nat).1 : Int), .int (((n - 1, 0) : Nat × Nat).2 : Int)]) := by
              rw [upd_same]
              show some (HO.tup [V.int ((n : Int) - 1), V.int 0]) = some (HO.tup [V.int ((n - 1 : Nat) : Int), V.int 0])
              rw [show ((n - 1 : Nat) : Int) = (n : Int) - 1 by omega]
            refine ⟨D, vr as, .ref p2, rfl, rfl, e2, ?_, as ++ [p2], rfl, ?_, ?_, ?_⟩
            · rw [List.length_map, p1.1, List.length_map, List.length_range]
              exact small1000 (by omega)
            · intro b o e
              rw [upd_ne (ne_of_none e nD)]
              exact (same_new n2) _ _ (s1 b o e)
            · rw [upd_same, vr_snoc]
            · unfold prs
              rw [if_pos ⟨hs, e⟩]
              exact ((p1.mono (Tups.new n2)).snoc h2).mono (Tups.lst e2)
          · refine ⟨as, rfl, s1, e1, ?_⟩
            unfold prs
            rw [if_neg, List.append_nil]
            · exact p1
            · rintro ⟨_, h⟩
              exact e (decide_eq_true (by omega))
        · rw [decide_eq_false hs]
          refine ⟨as, rfl, s1, e1, ?_⟩
          unfold prs
          rw [if_neg fun h => hs h.1, List.append_nil]
          exact p1
      · obtain ⟨as, rfl, s2, e2, p2⟩ := hM
        exact ⟨.ref D, rfl, q _ _ as s2 nD e2 p2⟩
/-! ### made_by_two -/
def sp_made_by_two : Sp := fun vs H Q _ => ∃ (sh : Str) (p : Addr) (x y u v : Nat) (cs : List Nat), vs = [.str sh, .ref p, .str (tx cs)] ∧ RulAt H p (.two x y u v) ∧ cs.length ≤ 100 ∧ ∀ H' l as, Same H H' → H l = none → H' l = some (.lst (vr as)) → MdAt H' as (mTwo x y u v cs (prs sh cs.length)) → Q (.ref l) H'
theorem ok_made_by_two (T : TX K mg) : FnOk P w K mg base CX0 2 T.a_made_by_two T.fd_made_by_two ["shape", "rule", "word"] sp_made_by_two := by
  have G_pairs_of : FnOk P w K mg base CX0 1 T.a_pairs_of T.fd_pairs_of ["shape", "number"] sp_pairs_of := ok_pairs_of T
  refine T.F_made_by_two.ok sc_made_by_two (fun vs H Q E h => ?_) (fun cdv A outer s H vs Q E hr h => ?_)
  · obtain ⟨sh, p, x, y, u, v, cs, rfl, _⟩ := h
    rfl
  · obtain ⟨sh, p, x, y, u, v, cs, rfl, hp, hl, q⟩ := h
    refine ⟨_, (pss_cons (ps_asg (pv 1) (pg_tupK (n := 5) K rfl (by rfl) (pgs_cons (pg_name (i := 3) sc_made_by_two.nd rfl (Or.inl rfl)) (pgs_cons (pg_name (i := 4) sc_made_by_two.nd rfl (Or.inl rfl)) (pgs_cons (pg_name (i := 5) sc_made_by_two.nd rfl (Or.inl rfl)) (pgs_cons (pg_name (i := 6) sc_made_by_two.nd rfl (Or.inl rfl)) (pgs_cons (pg_name (i := 7) sc_made_by_two.nd rfl (Or.inl rfl)) pgs_nil)))))))
      (pss_cons (ps_set (i := 8) sc_made_by_two.nd rfl (Or.inl rfl) (pe_lst pa_nil))
      (pss_cons (ps_for PassesOwn.never rfl (pi_listK K rfl (pe_call G_pairs_of (hr.mono (by decide)) (by rfl) T.g_pairs_of T.F_pairs_of.kp T.b_pairs_of .nil pass0 (pa_cons (pv 0) (pa_cons (pe_callB call_len_str (by rfl) T.m_len (by decide +kernel) (pa_cons (pv 2) pa_nil)) pa_nil)))) (pg_tupK (n := 2) K rfl (by rfl) (pgs_cons (pg_name (i := 9) sc_made_by_two.nd rfl (Or.inl rfl)) (pgs_cons (pg_name (i := 10) sc_made_by_two.nd rfl (Or.inl rfl)) pgs_nil)))
        (pss_one (ps_if (PW.pt (pw_and (pt_cmpR op_eq (pe_ix ix_str (pv 2) (pv 9) (fun _ _ => rfl)) (pv 4) (nomark _)) (pw_and1 (pt_cmpR op_eq (pe_ix ix_str (pv 2) (pv 10) (fun _ _ => rfl)) (pv 5) (nomark _)))))
            (pss_cons (ps_set (i := 11) sc_made_by_two.nd rfl (Or.inl rfl) (pe_callTy (call_listS rfl) (by rfl) T.m_list (by decide +kernel) (pa_cons (pv 2) pa_nil)))
              (pss_cons (ps_asg (pv 6) (pg_sub (pv 11) (pv 9) set_list))
              (pss_cons (ps_asg (pv 7) (pg_sub (pv 11) (pv 10) set_list))
              (pss_one (ps_expr (pe_bmK K rfl PySem.F.plainAttrs_list PySem.F.slot_list_append PySem.F.type_list_append mt_append (pv 8) (pa_cons (pe_tup (pa_cons (pv 9) (pa_cons (pe_m1 PySem.F.slot_str_join PySem.F.type_str_join (mt_joinK K rfl) pe_str (pv 11)) pa_nil))) pa_nil)))))))
            pss_nil)))
      (pss_one (ps_ret (pv 8)))))), ?_⟩
    have wl : (tx cs).length ≤ sizeLine := by
      rw [tx_len]
      exact Nat.le_trans hl (by decide)
    refine ⟨.ref p, rfl, p, [.str "two", .str (sg x), .str (sg y), .str (sg u), .str (sg v)], rfl, .inl (.inl hp), rfl, .str "two", _, rfl, .str (sg x), _, rfl, .str (sg y), _, rfl, .str (sg u), _, rfl, .str (sg v), [], rfl, rfl, ?_⟩
    refine ⟨by show 0 ≤ sizeLine; decide, fun l nl => ?_⟩
    refine ⟨.str sh, rfl, .str (tx cs), rfl, tx cs, rfl, wl, sh, cs.length, by rw [tx_len]; rfl, hl, fun H1 D as s1 nD eD pA => ?_⟩
    have sH : Same H H1 := (same_new nl).trans s1
    have eL : H1 l = some (.lst (vr [])) := s1 _ _ upd_same
    have lD : l ≠ D := ne_of_none (upd_same (H := H) (o := .lst [])) nD
    refine ⟨D, rfl, ⟨_, .inl (.inl eD)⟩, ?_⟩
    refine for_it (walk_list (K := K) (a := D) (xs := vr as)) (fun i σ H' => (Same H H' ∧ ∃ bs, H' l = some (.lst (vr bs)) ∧ MdAt H' bs (mTwo x y u v cs ((prs sh cs.length).take i))) ∧ H' D = some (.lst (vr as)) ∧ PrsAt H' as (prs sh cs.length) ∧ ∃ y9 y10 y11, σ = [some (.str sh), some (.ref p), some (.str (tx cs)), some (.str "two"), some (.str (sg x)), some (.str (sg y)), some (.str (sg u)), some (.str (sg v)), some (.ref l), y9, y10, y11]) ⟨⟨sH, [], eL, MdAt.nil⟩, eD, pA, none, none, none, rfl⟩ (fun i σ H' _ hP => .inl (.inl hP.2.1)) (fun i b σ H2 H2' hi hW hY => ?_) (fun σ H2 hW => ?_)
    · obtain ⟨⟨s2, bs, l2, m2⟩, e2, p2, y9, y10, y11, rfl⟩ := hW
      obtain ⟨rfl, hb⟩ := hY
      rw [List.length_map] at hi
      have hip : i < (prs sh cs.length).length := by
        rw [← p2.1]
        exact hi
      rw [List.getElem?_map, List.getElem?_eq_getElem hi] at hb
      cases hb
      obtain ⟨pp, hpp⟩ : ∃ pp, (prs sh cs.length)[i]? = some pp := ⟨_, List.getElem?_eq_getElem hip⟩
      have ht := p2.2 i _ pp (List.getElem?_eq_getElem hi) hpp
      obtain ⟨lt1, lt2⟩ := prs_lt (List.mem_of_getElem? hpp)
      have et : (prs sh cs.length).take (i + 1) = (prs sh cs.length).take i ++ [pp] := by
        rw [List.take_add_one, hpp]
        rfl
      have c1 : cs[pp.1]? = some cs[pp.1] := List.getElem?_eq_getElem lt1
      have c2 : cs[pp.2]? = some cs[pp.2] := List.getElem?_eq_getElem lt2
      refine ⟨as[i], [.int (pp.1 : Int), .int (pp.2 : Int)], rfl, .inl (.inl ht), rfl, .int (pp.1 : Int), _, rfl, .int (pp.2 : Int), [], rfl, rfl, ?_⟩
      refine ⟨.str (tx cs), rfl, .int (pp.1 : Int), rfl, tx cs, (pp.1 : Int), cs[pp.1], rfl, rfl, wl, atI_nat c1, .str (sg x), rfl, rfl, _, rfl, ?_⟩
      rw [sg_eq]
      by_cases ex : cs[pp.1] = x
      · rw [decide_eq_true ex]
        refine ⟨.str (tx cs), rfl, .int (pp.2 : Int), rfl, tx cs, (pp.2 : Int), cs[pp.2], rfl, rfl, wl, atI_nat c2, .str (sg y), rfl, rfl, _, rfl, ?_⟩
        rw [sg_eq]
        by_cases ey : cs[pp.2] = y
        · rw [decide_eq_true ey]
          refine ⟨.str (tx cs), rfl, tx cs, rfl, wl, fun d nd => ?_⟩
          have dl : d ≠ l := (ne_of_none l2 nd).symm
          have dD : d ≠ D := (ne_of_none e2 nd).symm
          have sz : ∀ (ds : List Nat) (k : Nat), ds.length = cs.length → k < cs.length → ixN (vs_ ds).length (k : Int) = some k := fun ds k h1 h2 => by
            rw [List.length_map, h1]
            exact ixN_of h2
          refine ⟨.str (sg u), rfl, .ref d, rfl, .int (pp.1 : Int), rfl, d, vs_ cs, (pp.1 : Int), pp.1, rfl, rfl, upd_same, sz cs _ rfl lt1, ?_⟩
          refine ⟨.str (sg v), rfl, .ref d, rfl, .int (pp.2 : Int), rfl, d, (vs_ cs).set pp.1 (.str (sg u)), (pp.2 : Int), pp.2, rfl, rfl, upd_same, by rw [vs_set]; exact sz _ _ (List.length_set ..) lt2, ?_⟩
          rw [vs_set, vs_set]
          have hd : (upd (upd (upd H2' d (.lst (sgns (tx cs)))) d (.lst (vs_ (cs.set pp.1 u)))) d (.lst (vs_ ((cs.set pp.1 u).set pp.2 v)))) d = some (.lst (vs_ ((cs.set pp.1 u).set pp.2 v))) := upd_same
          have hs : Same H2' (upd (upd (upd H2' d (.lst (sgns (tx cs)))) d (.lst (vs_ (cs.set pp.1 u)))) d (.lst (vs_ ((cs.set pp.1 u).set pp.2 v)))) := fun b o e => by
            have := ne_of_none e nd
            rw [upd_ne this, upd_ne this, upd_ne this]
            exact e
          generalize upd (upd (upd H2' d (.lst (sgns (tx cs)))) d (.lst (vs_ (cs.set pp.1 u)))) d (.lst (vs_ ((cs.set pp.1 u).set pp.2 v))) = H3 at hd hs
          refine ⟨.ref l, rfl, .inl ⟨rfl, _, .inl (.inl (hs _ _ l2))⟩, .int (pp.1 : Int), rfl, ⟨_, rfl⟩, .ref d, rfl, ⟨#[]⟩, d, ((cs.set pp.1 u).set pp.2 v).map sg, rfl, rfl, .inl (.inl (.inl (by rw [hd, vs_map]))), ?_, ?_⟩
          · rw [List.length_map, sum_sg]
            show _ + _ * 0 ≤ 16777216
            rw [List.length_set, List.length_set]
            omega
          rw [join_vs]
          refine ⟨by show 2 ≤ sizeLine; decide, fun p3 n3 => ?_⟩
          have l3 := (same_new (o := .tup [.int (pp.1 : Int), .str (tx ((cs.set pp.1 u).set pp.2 v))]) n3) _ _ (hs _ _ l2)
          refine ⟨l, vr bs, .ref p3, rfl, rfl, l3, ?_, ?_, ?_, ?_, _, _, _, rfl⟩
          · rw [List.length_map, m2.1]
            have := filter_len (fun p : Nat × Nat => decide (cs[p.1]? = some x) && decide (cs[p.2]? = some y)) (fun p => (p.1, (cs.set p.1 u).set p.2 v)) ((prs sh cs.length).take i)
            have h2 := List.length_take_le i (prs sh cs.length)
            have h3 := prs_len sh cs.length
            exact small1000 (Nat.le_trans this (by omega))
          · rw [et, mTwo_snoc, at_sign c1, at_sign c2, decide_eq_true ex, decide_eq_true ey]
            exact md_more (s2.trans hs) nl (hs _ _ l2) (m2.mono (Tups.same hs)) n3 rfl
          · rw [upd_ne lD.symm]
            exact (same_new n3) _ _ (hs _ _ e2)
          · exact ((p2.mono (Tups.same hs)).mono (Tups.new n3)).mono (Tups.lst l3)
        · rw [decide_eq_false ey]
          refine ⟨⟨s2, bs, l2, ?_⟩, e2, p2, _, _, _, rfl⟩
          rw [et, mTwo_snoc, at_sign c1, at_sign c2, decide_eq_true ex, decide_eq_false ey]
          simp only [Bool.and_false, Bool.false_eq_true, if_false, List.append_nil]
          exact m2
      · rw [decide_eq_false ex]
        refine ⟨⟨s2, bs, l2, ?_⟩, e2, p2, _, _, _, rfl⟩
        rw [et, mTwo_snoc, at_sign c1, at_sign c2, decide_eq_false ex]
        simp only [Bool.false_and, Bool.false_eq_true, if_false, List.append_nil]
        exact m2
    · obtain ⟨⟨s2, bs, l2, m2⟩, e2, p2, y9, y10, y11, rfl⟩ := hW
      rw [List.length_map, p2.1, List.take_of_length_le (Nat.le_refl _)] at m2
      exact ⟨.ref l, rfl, q _ _ bs s2 nl l2 m2⟩
end
end LH

namespace LH
open PySem PySem.Spec PyProof.Rows L2
theorem idx_lt {z : Str} {c : Nat} (h : c ∈ z.cps.toList) : z.cps.toList.idxOf c < z.length := by
  have := List.idxOf_lt_length_iff.mpr h
  rw [Array.length_toList] at this
  exact this
theorem take_len {α : Type} (i : Nat) (cs : List α) : (cs.take i).length ≤ cs.length := by
  rw [List.length_take]
  exact Nat.min_le_right _ _
theorem aCall_succ (x y : Nat) (z : Str) (im cs : List Nat) (n : Nat) : aCall x y z im cs (n + 1) = aCall x y z im cs n ++ if decide (cs[n]? = some x) = true then [(cs.map (imOf z im)).set n y] else [] := filt_succ _ _ n
def mCall (x y : Nat) (z : Str) (im cs : List Nat) (n : Nat) : List (Nat × List Nat) := ((List.range n).filter fun i => decide (cs[i]? = some x)).map fun i => (i, (cs.map (imOf z im)).set i y)
theorem mCall_succ (x y : Nat) (z : Str) (im cs : List Nat) (n : Nat) : mCall x y z im cs (n + 1) = mCall x y z im cs n ++ if decide (cs[n]? = some x) = true then [(n, (cs.map (imOf z im)).set n y)] else [] := filt_succ _ _ n
theorem mCall_snd (x y : Nat) (z : Str) (im cs : List Nat) (n : Nat) : (mCall x y z im cs n).map Prod.snd = aCall x y z im cs n := by
  unfold mCall aCall
  rw [List.map_map]
  rfl
theorem sign_of {cs : List Nat} {i : Nat} {u : V} (h : signAt (tx cs) i = some u) : ∃ c, cs[i]? = some c ∧ u = .str (sg c) := by
  unfold signAt at h
  rw [show (tx cs).cps[i]? = cs[i]? by simp] at h
  cases hc : cs[i]? with
  | none =>
    rw [hc] at h
    cases h
  | some c =>
    rw [hc] at h
    cases h
    exact ⟨c, rfl, rfl⟩
/-! ### what comes by a rule -/
def aAll (z sh : Str) (cs : List Nat) : Rul → List (List Nat)
  | .one x y g => aOne x y g cs cs.length
  | .two x y u v => aTwo x y u v cs (prs sh cs.length)
  | .call x y im => aCall x y z im cs cs.length
theorem aAll_len (z sh : Str) (cs : List Nat) (R : Rul) : (aAll z sh cs R).length ≤ cs.length := by
  cases R with
  | one x y g =>
    have := filter_len (fun i => decide (cs[i]? = some x) && gOk cs i g) (fun i => cs.set i y) (List.range cs.length)
    rw [List.length_range] at this
    exact this
  | two x y u v => exact Nat.le_trans (filter_len _ _ _) (prs_len sh cs.length)
  | call x y im =>
    have := filter_len (fun i => decide (cs[i]? = some x)) (fun i => (cs.map (imOf z im)).set i y) (List.range cs.length)
    rw [List.length_range] at this
    exact this
/-- the places and words that a rule makes -/
def mAll (z sh : Str) (cs : List Nat) : Rul → List (Nat × List Nat)
  | .one x y g => mOne x y g cs cs.length
  | .two x y u v => mTwo x y u v cs (prs sh cs.length)
  | .call x y im => mCall x y z im cs cs.length
theorem mAll_snd (z sh : Str) (cs : List Nat) (R : Rul) : (mAll z sh cs R).map Prod.snd = aAll z sh cs R := by
  cases R with
  | one x y g => exact mOne_snd x y g cs cs.length
  | two x y u v => exact mTwo_snd x y u v cs (prs sh cs.length)
  | call x y im => exact mCall_snd x y z im cs cs.length
/-- the words zs are those that come, rising, each once -/
def Comes (ws : List (List Nat)) (zs : List Str) : Prop := zs.Perm (tAll (ws.map tx)) ∧ sortedS zs = true
theorem Comes.one {ws : List (List Nat)} {a b : List Str} (h : Comes ws a) (k : Comes ws b) : a = b := sorted_one h.2 k.2 (h.1.trans k.1.symm)
theorem Comes.len {ws : List (List Nat)} {zs : List Str} (h : Comes ws zs) : zs.length ≤ ws.length := by
  have := tAll_len (ws.map tx)
  rw [List.length_map] at this
  rw [h.1.length_eq]
  exact this
section
variable {P : Program} {w : World} {K : PySem.W.Frag} {mg : Str → Option Value} {base : Heap}
def sp_made_by_call : Sp := fun vs H Q _ => ∃ (z : Str) (p : Addr) (x y : Nat) (im cs : List Nat), vs = [.str z, .ref p, .str (tx cs)] ∧ RulAt H p (.call x y im) ∧ cs.length ≤ 100 ∧ im.length = z.length ∧ z.length ≤ 100 ∧ (∀ c ∈ cs, c ∈ z.cps.toList) ∧ ∀ H' l as, Same H H' → H l = none → H' l = some (.lst (vr as)) → MdAt H' as (mCall x y z im cs cs.length) → Q (.ref l) H'
theorem ok_made_by_call (T : TX K mg) : FnOk P w K mg base CX0 1 T.a_made_by_call T.fd_made_by_call ["letters", "rule", "word"] sp_made_by_call := by
  refine T.F_made_by_call.ok sc_made_by_call (fun vs H Q E h => ?_) (fun cdv A outer s H vs Q E hr h => ?_)
  · obtain ⟨z, p, x, y, im, cs, rfl, _⟩ := h
    rfl
  · obtain ⟨z, p, x, y, im, cs, rfl, hp, hl, him, hz, hc, q⟩ := h
    refine ⟨_, (pss_cons (ps_asg (pv 1) (pg_tupK (n := 4) K rfl (by rfl) (pgs_cons (pg_name (i := 3) sc_made_by_call.nd rfl (Or.inl rfl)) (pgs_cons (pg_name (i := 4) sc_made_by_call.nd rfl (Or.inr rfl)) (pgs_cons (pg_name (i := 5) sc_made_by_call.nd rfl (Or.inr rfl)) (pgs_cons (pg_name (i := 6) sc_made_by_call.nd rfl (Or.inr rfl)) pgs_nil))))))
      (pss_cons (ps_set (i := 7) sc_made_by_call.nd rfl (Or.inr rfl) (pe_m1 PySem.F.slot_str_join PySem.F.type_str_join (mt_joinK K rfl) pe_str (pe_lc (own := [("letter", 8)]) (g := gName 8) (tt := tYes) (by rfl) sc_made_by_call.nd (pi_str (pv 2)) (blkOk_by (own := [("letter", 8)]) (N := N_made_by_call) (by kernel_rfl)) (fun _ _ _ _ _ => (pg_name (i := 8) sc_made_by_call.nd rfl (Or.inl rfl))) (fun _ _ _ _ _ => pts_nil) (fun _ _ _ _ _ => (pe_ix ix_str (pv 6) (pe_m1 PySem.F.slot_str_index PySem.F.type_str_index mt_sindex (pv 0) (pv 8)) (fun _ _ => rfl))))))
      (pss_one (ps_ret (pe_lc (own := [("at", 9), ("letter", 8)]) (by rfl) sc_made_by_call.nd (pi_enumS (by rfl) T.m_enumerate (pa_cons (pv 2) pa_nil)) (blkOk_by (own := [("at", 9), ("letter", 8)]) (N := N_made_by_call) (by kernel_rfl)) (fun _ _ _ _ _ => (pg_tupK (n := 2) K rfl (by rfl) (pgs_cons (pg_name (i := 9) sc_made_by_call.nd rfl (Or.inl rfl)) (pgs_cons (pg_name (i := 8) sc_made_by_call.nd rfl (Or.inl rfl)) pgs_nil)))) (fun _ _ _ _ _ => (pts_one (pt_cmpR op_eq (pv 8) (pv 4) (nomark _)))) (fun _ _ _ _ _ => (pe_tup (pa_cons (pv 9) (pa_cons (pe_op op_add_str (pe_op op_add_str (pe_slice sl_str (pv 7) po_none (po_some (pv 9))) (pv 5)) (pe_slice sl_str (pv 7) (po_some (pe_op op_add (pv 9) pe_int)) po_none)) pa_nil))))))))), ?_⟩
    have il : (tx im).length ≤ sizeLine := by
      rw [tx_len, him]
      exact Nat.le_trans hz (by decide)
    refine ⟨.ref p, rfl, p, [.str "call", .str (sg x), .str (sg y), .str (tx im)], rfl, .inl (.inl hp), rfl, .str "call", _, rfl, .str (sg x), _, rfl, .str (sg y), _, rfl, .str (tx im), [], rfl, rfl, ?_⟩
    refine ⟨⟨_, rfl⟩, .str (tx cs), rfl, tx cs, rfl, fun D nD => ?_⟩
    refine lc_it walk_str (fun i H' => Same H H' ∧ H' D = some (.lst (vs_ ((cs.take i).map (imOf z im))))) ⟨same_new nD, upd_same⟩ (fun _ _ _ _ => trivial) (fun i v H1 H1' hi hW hY => ?_) (fun H1 hW => ?_)
    · obtain ⟨s1, e1⟩ := hW
      obtain ⟨rfl, c, hcc, rfl⟩ := hY
      have hcs : cs[i]? = some c := by
        rw [← hcc]
        simp
      have hcz := hc c (List.mem_of_getElem? hcs)
      obtain ⟨rest, eo⟩ := occ_sign hcz
      have hix : z.cps.toList.idxOf c < im.length := by
        rw [him]
        exact idx_lt hcz
      have em : im[z.cps.toList.idxOf c]? = some (imOf z im c) := by
        unfold imOf
        rw [List.getD_eq_getElem?_getD, List.getElem?_eq_getElem hix]
        rfl
      refine ⟨rfl, lcyes ?_⟩
      refine ⟨.str (tx im), rfl, .str z, rfl, ⟨_, rfl⟩, .str (sg c), rfl, z, sg c, _, rest, rfl, rfl, eo, tx im, _, imOf z im c, rfl, rfl, il, atI_nat em, _, e1, ?_, ?_, ?_⟩
      · rw [List.length_map, List.length_map]
        have := take_len i cs
        exact small1000 (by omega)
      · intro b o e
        rw [upd_ne (ne_of_none e nD)]
        exact s1 b o e
      · rw [upd_same, vs_snoc, List.take_add_one, hcs, List.map_append]
        rfl
    · obtain ⟨s1, e1⟩ := hW
      rw [List.take_of_length_le (by rw [List.size_toArray]; exact Nat.le_refl _)] at e1
      refine ⟨⟨#[]⟩, D, (cs.map (imOf z im)).map sg, rfl, rfl, .inl (.inl (.inl (by rw [e1, vs_map]))), ?_, ?_⟩
      · rw [List.length_map, sum_sg]
        show _ + _ * 0 ≤ 16777216
        rw [List.length_map]
        omega
      rw [join_vs]
      have tl : (cs.map (imOf z im)).length = cs.length := List.length_map _
      obtain ⟨ts, hts⟩ : ∃ ts, ts = cs.map (imOf z im) := ⟨_, rfl⟩
      rw [← hts] at tl
      rw [← hts]
      have wl : (tx ts).length ≤ sizeLine := by
        rw [tx_len, tl]
        exact Nat.le_trans hl (by decide)
      refine ⟨.str (tx cs), rfl, tx cs, rfl, fun l nl => ?_⟩
      have fl : H l = none := Same.free s1 nl
      refine lc_it walk_Itp (fun i H' => Same H H' ∧ ∃ as, H' l = some (.lst (vr as)) ∧ MdAt H' as (mCall x y z im cs i)) ⟨s1.trans (same_new nl), [], upd_same, MdAt.nil⟩ (fun _ _ _ _ => trivial) (fun i v H2 H2' hi hW hY => ?_) (fun H2 hW => ?_)
      · obtain ⟨s2, as, e2, m2⟩ := hW
        obtain ⟨t, u1, u2, rfl, nt, rfl, h1, h2⟩ := hY
        cases h1
        obtain ⟨c, hcs, rfl⟩ := sign_of h2
        have hi' : i < cs.length := (List.getElem?_eq_some_iff.mp hcs).1
        have s3 : Same H (upd H2 t (.tup [.int (i : Nat), .str (sg c)])) := s2.trans (same_new nt)
        have e3 : (upd H2 t (.tup [.int (i : Nat), .str (sg c)])) l = some (.lst (vr as)) := (same_new nt) _ _ e2
        have et : (upd H2 t (.tup [.int (i : Nat), .str (sg c)])) t = some (.tup [.int (i : Nat), .str (sg c)]) := upd_same
        have m3 : MdAt (upd H2 t (.tup [.int (i : Nat), .str (sg c)])) as (mCall x y z im cs i) := m2.mono (Tups.new nt)
        generalize upd H2 t (.tup [.int (i : Nat), .str (sg c)]) = H3 at s3 e3 et m3
        refine ⟨t, [.int (i : Nat), .str (sg c)], rfl, .inl (.inl et), rfl, .int (i : Nat), _, rfl, .str (sg c), [], rfl, rfl, rfl, ?_⟩
        refine ⟨.str (sg c), rfl, .str (sg x), rfl, rfl, _, rfl, ?_⟩
        rw [sg_eq]
        by_cases ex : c = x
        · rw [decide_eq_true ex]
          have hit : i < ts.length := by omega
          have w1 : (tx (ts.take i)).length + (sg y).length ≤ sizeLine := by
            rw [tx_len]
            have := List.length_take_le i ts
            exact Nat.le_of_lt (small1000 (show (ts.take i).length + 1 ≤ 1000 by omega))
          have w2 : (tx (ts.take i) ++ sg y).length + (tx (ts.drop (i + 1))).length ≤ sizeLine := by
            rw [show sg y = tx [y] from rfl, tx_app, tx_len, tx_len, List.length_append, List.length_drop]
            have := List.length_take_le i ts
            exact Nat.le_of_lt (small1000 (show (ts.take i).length + 1 + (ts.length - (i + 1)) ≤ 1000 by omega))
          refine ⟨.int (i : Nat), rfl, .str (tx ts), rfl, .int (i : Nat), rfl, (i : Int), rfl, tx ts, rfl, wl, .str (sg y), rfl, tx (ts.take i), sg y, by rw [cut_lo], rfl, w1, .str (tx ts), rfl, .int (i : Nat), rfl, (i : Int), 1, rfl, rfl, (i : Int) + 1, rfl, tx ts, rfl, wl, tx (ts.take i) ++ sg y, tx (ts.drop (i + 1)), rfl, by rw [cut_hi], w2, by show 2 ≤ sizeLine; decide, fun p2 n2 => ?_⟩
          refine ⟨vr as, (same_new n2) _ _ e3, ?_, ?_⟩
          · rw [List.length_map, m3.1]
            have : (mCall x y z im cs i).length ≤ i := by
              have := filter_len (fun i => decide (cs[i]? = some x)) (fun i => (i, (cs.map (imOf z im)).set i y)) (List.range i)
              rw [List.length_range] at this
              exact this
            exact small1000 (by omega)
          · rw [mCall_succ, at_sign hcs, decide_eq_true ex, if_pos rfl]
            exact md_more s3 fl e3 m3 n2 (by rw [tx_set hit, hts])
        · rw [decide_eq_false ex]
          refine ⟨s3, as, e3, ?_⟩
          rw [mCall_succ, at_sign hcs, decide_eq_false ex, if_neg Bool.false_ne_true, List.append_nil]
          exact m3
      · obtain ⟨s2, as, e2, m2⟩ := hW
        rw [show (tx cs).cps.size = cs.length from List.size_toArray] at m2
        exact q _ _ as s2 fl e2 m2
/-! ### made_at -/
def sp_made_at : Sp := fun vs H Q _ => ∃ (z sh : Str) (p : Addr) (R : Rul) (cs : List Nat), vs = [.str z, .str sh, .ref p, .str (tx cs)] ∧ RulAt H p R ∧ R.Ok z sh ∧ z.length ≤ 100 ∧ cs.length ≤ 100 ∧ (∀ c ∈ cs, c ∈ z.cps.toList) ∧ ∀ H' l as, Same H H' → H l = none → H' l = some (.lst (vr as)) → MdAt H' as (mAll z sh cs R) → Q (.ref l) H'
theorem ok_made_at (T : TX K mg) : FnOk P w K mg base CX0 3 T.a_made_at T.fd_made_at ["letters", "shape", "rule", "word"] sp_made_at := by
  have G_made_by_one : FnOk P w K mg base CX0 2 T.a_made_by_one T.fd_made_by_one ["rule", "word"] sp_made_by_one := ok_made_by_one T
  have G_made_by_two : FnOk P w K mg base CX0 2 T.a_made_by_two T.fd_made_by_two ["shape", "rule", "word"] sp_made_by_two := ok_made_by_two T
  have G_made_by_call : FnOk P w K mg base CX0 1 T.a_made_by_call T.fd_made_by_call ["letters", "rule", "word"] sp_made_by_call := ok_made_by_call T
  refine T.F_made_at.ok sc_made_at (fun vs H Q E h => ?_) (fun cdv A outer s H vs Q E hr h => ?_)
  · obtain ⟨z, sh, p, R, cs, rfl, _⟩ := h
    rfl
  · obtain ⟨z, sh, p, R, cs, rfl, hp, ho, hz, hl, hc, q⟩ := h
    refine ⟨_, (pss_cons (ps_if (pt_cmpR op_eq (pe_ix (ix_tupK K rfl) (pv 2) pe_int (fun _ _ => rfl)) pe_str (nomark _))
        (pss_one (ps_ret (pe_call G_made_by_one (hr.mono (by decide)) (by rfl) T.g_made_by_one T.F_made_by_one.kp T.b_made_by_one .nil pass0 (pa_cons (pv 2) (pa_cons (pv 3) pa_nil)))))
        pss_nil)
      (pss_cons (ps_if (pt_cmpR op_eq (pe_ix (ix_tupK K rfl) (pv 2) pe_int (fun _ _ => rfl)) pe_str (nomark _))
        (pss_one (ps_ret (pe_call G_made_by_two (hr.mono (by decide)) (by rfl) T.g_made_by_two T.F_made_by_two.kp T.b_made_by_two .nil pass0 (pa_cons (pv 1) (pa_cons (pv 2) (pa_cons (pv 3) pa_nil))))))
        pss_nil)
      (pss_one (ps_ret (pe_call G_made_by_call (hr.mono (by decide)) (by rfl) T.g_made_by_call T.F_made_by_call.kp T.b_made_by_call .nil pass0 (pa_cons (pv 0) (pa_cons (pv 2) (pa_cons (pv 3) pa_nil)))))))), ?_⟩
    cases R with
    | one x y g =>
      obtain ⟨v, hv, hg⟩ := hp
      refine ⟨.ref p, rfl, p, _, 0, .str "one", rfl, rfl, .inl (.inl hv), atI_nat (j := 0) rfl, rfl, _, rfl, iteT ?_⟩
      exact ⟨.ref p, rfl, .str (tx cs), rfl, p, x, y, g, cs, rfl, ⟨v, hv, hg⟩, hl, q⟩
    | two x y u v =>
      refine ⟨.ref p, rfl, p, _, 0, .str "two", rfl, rfl, .inl (.inl hp), atI_nat (j := 0) rfl, rfl, _, rfl, iteF ?_⟩
      refine ⟨.ref p, rfl, p, _, 0, .str "two", rfl, rfl, .inl (.inl hp), atI_nat (j := 0) rfl, rfl, _, rfl, iteT ?_⟩
      exact ⟨.str sh, rfl, .ref p, rfl, .str (tx cs), rfl, sh, p, x, y, u, v, cs, rfl, hp, hl, q⟩
    | call x y im =>
      refine ⟨.ref p, rfl, p, _, 0, .str "call", rfl, rfl, .inl (.inl hp), atI_nat (j := 0) rfl, rfl, _, rfl, iteF ?_⟩
      refine ⟨.ref p, rfl, p, _, 0, .str "call", rfl, rfl, .inl (.inl hp), atI_nat (j := 0) rfl, rfl, _, rfl, iteF ?_⟩
      exact ⟨.str z, rfl, .ref p, rfl, .str (tx cs), rfl, z, p, x, y, im, cs, rfl, hp, hl, ho.2.2.1, hz, hc, q⟩
/-! ### after -/
theorem Tups.setT {P : Program} {w : World} {p : Addr} {H : Hp} {xs : List Str} {o : HO} (h : H p = some (SetT P w p xs)) : Tups H (upd H p o) := fun c ys e => by
  by_cases hc : c = p
  · rw [hc, h] at e
    cases e
  · rw [upd_ne hc]
    exact e
def sp_after : Sp := fun vs H Q _ => ∃ (z sh : Str) (p : Addr) (R : Rul) (cs : List Nat), vs = [.str z, .str sh, .ref p, .str (tx cs)] ∧ RulAt H p R ∧ R.Ok z sh ∧ z.length ≤ 100 ∧ cs.length ≤ 100 ∧ (∀ c ∈ cs, c ∈ z.cps.toList) ∧ ∀ H' l zs, Same H H' → H l = none → H' l = some (.lst (zs.map V.str)) → Comes (aAll z sh cs R) zs → Q (.ref l) H'
theorem ok_after (T : TX K mg) : FnOk P w K mg base CX0 4 T.a_after T.fd_after ["letters", "shape", "rule", "word"] sp_after := by
  have G_made_at : FnOk P w K mg base CX0 3 T.a_made_at T.fd_made_at ["letters", "shape", "rule", "word"] sp_made_at := ok_made_at T
  refine T.F_after.ok sc_after (fun vs H Q E h => ?_) (fun cdv A outer s H vs Q E hr h => ?_)
  · obtain ⟨z, sh, p, R, cs, rfl, _⟩ := h
    rfl
  · obtain ⟨z, sh, p, R, cs, rfl, hp, ho, hz, hl, hc, q⟩ := h
    refine ⟨_, (pss_one (ps_ret (pe_callB (cr_sortTK P w rfl rfl rfl) (by rfl) T.m_sorted (by decide +kernel) (pa_cons (pe_scTK P w (by rfl) (by rfl) (own := [("place", 4), ("other", 5)]) (tt := tYes) (by rfl) sc_after.nd (pi_listK K rfl (pe_call G_made_at (hr.mono (by decide)) (by rfl) T.g_made_at T.F_made_at.kp T.b_made_at .nil pass0 (pa_cons (pv 0) (pa_cons (pv 1) (pa_cons (pv 2) (pa_cons (pv 3) pa_nil)))))) (blkOk_by (own := [("place", 4), ("other", 5)]) (N := N_after) (by kernel_rfl)) (fun _ _ _ _ _ => (pg_tupK (n := 2) K rfl (by rfl) (pgs_cons (pg_name (i := 4) sc_after.nd rfl (Or.inl rfl)) (pgs_cons (pg_name (i := 5) sc_after.nd rfl (Or.inl rfl)) pgs_nil)))) (fun _ _ _ _ _ => pts_nil) (fun _ _ _ _ _ => (pv 5))) pa_nil)))), ?_⟩
    refine ⟨.str z, rfl, .str sh, rfl, .ref p, rfl, .str (tx cs), rfl, z, sh, p, R, cs, rfl, hp, ho, hz, hl, hc, fun H1 l as s1 nl e1 m1 => ⟨l, rfl, ⟨_, .inl (.inl e1)⟩, fun D nD => ?_⟩⟩
    have al := aAll_len z sh cs R
    have fD : H D = none := Same.free s1 nD
    have lD : l ≠ D := ne_of_none e1 nD
    have ml : (mAll z sh cs R).length = (aAll z sh cs R).length := by rw [← mAll_snd, List.length_map]
    refine sc_it (walk_list (K := K) (a := l) (xs := vr as)) (fun i H' => Same H H' ∧ H' l = some (.lst (vr as)) ∧ MdAt H' as (mAll z sh cs R) ∧ H' D = some (SetT P w D (tAll (((aAll z sh cs R).take i).map tx)))) ⟨s1.trans (same_new nD), (same_new nD) _ _ e1, m1.mono (Tups.new nD), upd_same⟩ (fun i H' _ hP => .inl (.inl hP.2.1)) (fun i b H2 H2' hi hW hY => ?_) (fun H2 hW => ?_)
    · obtain ⟨s2, e2, m2, d2⟩ := hW
      obtain ⟨rfl, hb⟩ := hY
      rw [List.length_map] at hi
      have him : i < (mAll z sh cs R).length := by
        rw [← m2.1]
        exact hi
      rw [List.getElem?_map, List.getElem?_eq_getElem hi] at hb
      cases hb
      obtain ⟨mm, hmm⟩ : ∃ mm, (mAll z sh cs R)[i]? = some mm := ⟨_, List.getElem?_eq_getElem him⟩
      have ht := m2.2 i _ mm (List.getElem?_eq_getElem hi) hmm
      have ha : (aAll z sh cs R)[i]? = some mm.2 := by
        rw [← mAll_snd, List.getElem?_map, hmm]
        rfl
      refine ⟨as[i], [.int (mm.1 : Int), .str (tx mm.2)], rfl, .inl (.inl ht), rfl, .int (mm.1 : Int), _, rfl, .str (tx mm.2), [], rfl, rfl, rfl, ?_⟩
      refine ⟨.str (tx mm.2), rfl, tx mm.2, _, rfl, d2, ?_, ?_, ?_, m2.mono (Tups.setT d2), ?_⟩
      · have t1 := tAll_len (((aAll z sh cs R).take i).map tx)
        rw [List.length_map] at t1
        have t2 := List.length_take_le i (aAll z sh cs R)
        unfold scanBound
        omega
      · intro c o hb
        rw [upd_ne (ne_of_none hb fD)]
        exact s2 c o hb
      · rw [upd_ne lD]
        exact e2
      · rw [upd_same, List.take_add_one, ha, List.map_append]
        exact congrArg (fun x => some (SetT P w D x)) (tAll_snoc _ _).symm
    · obtain ⟨s2, e2, m2, d2⟩ := hW
      rw [List.length_map, m2.1, ml, List.take_of_length_le (Nat.le_refl _)] at d2
      have tl := tAll_len ((aAll z sh cs R).map tx)
      rw [List.length_map] at tl
      refine ⟨D, _, rfl, d2, by omega, fun zs p3 pm srt n3 => ?_⟩
      exact q _ p3 zs (s2.trans (same_new n3)) (Same.free s2 n3) upd_same ⟨pm, srt⟩
end
end LH

namespace LH
open PySem PySem.Spec PyProof.Rows L2
/-! ### words turned about and with letters exchanged: what comes goes along -/
structure Sym (n : Nat) where
  t : Nat → Nat
  u : Nat → Nat
  tl : ∀ k, k < n → t k < n
  ul : ∀ k, k < n → u k < n
  ut : ∀ k, k < n → u (t k) = k
  tu : ∀ k, k < n → t (u k) = k
theorem Sym.inj {n : Nat} (S : Sym n) {a b : Nat} (ha : a < n) (hb : b < n) (h : S.t a = S.t b) : a = b := by
  have := congrArg S.u h
  rw [S.ut a ha, S.ut b hb] at this
  exact this
def Sym.act {n : Nat} (S : Sym n) (f : Nat → Nat) (cs : List Nat) : List Nat := (List.range n).map fun j => f (cs.getD (S.u j) 0)
section
variable {n : Nat} (S : Sym n) (f : Nat → Nat)
theorem act_len (cs : List Nat) : (S.act f cs).length = n := by
  unfold Sym.act
  rw [List.length_map, List.length_range]
theorem getD_of {cs : List Nat} {k c : Nat} (h : cs[k]? = some c) : cs.getD k 0 = c := by
  rw [List.getD_eq_getElem?_getD, h]
  rfl
theorem act_at {cs : List Nat} {j : Nat} (hj : j < n) : (S.act f cs)[j]? = some (f (cs.getD (S.u j) 0)) := by
  unfold Sym.act
  rw [List.getElem?_map, List.getElem?_range hj]
  rfl
theorem act_t {cs : List Nat} (hc : cs.length = n) {k c : Nat} (h : cs[k]? = some c) : (S.act f cs)[S.t k]? = some (f c) := by
  have hk : k < n := by
    rw [← hc]
    exact (List.getElem?_eq_some_iff.mp h).1
  rw [act_at S f (S.tl k hk), S.ut k hk, getD_of h]
theorem act_back {cs : List Nat} (hc : cs.length = n) {j d : Nat} (h : (S.act f cs)[j]? = some d) : ∃ k c, k < n ∧ S.t k = j ∧ cs[k]? = some c ∧ f c = d := by
  have hj : j < n := by
    rw [← act_len S f cs]
    exact (List.getElem?_eq_some_iff.mp h).1
  have hk := S.ul j hj
  have hu : S.u j < cs.length := by omega
  have e : cs[S.u j]? = some cs[S.u j] := List.getElem?_eq_getElem hu
  rw [act_at S f hj, getD_of e] at h
  exact ⟨S.u j, cs[S.u j], hk, S.tu j hj, e, Option.some.inj h⟩
theorem act_set {cs : List Nat} (hc : cs.length = n) {k : Nat} (hk : k < n) (y : Nat) : S.act f (cs.set k y) = (S.act f cs).set (S.t k) (f y) := by
  refine List.ext_getElem? fun j => ?_
  by_cases hj : j < n
  · rw [act_at S f hj, List.getElem?_set, act_len]
    have hu : S.u j < cs.length := by
      have := S.ul j hj
      omega
    have e : cs[S.u j]? = some cs[S.u j] := List.getElem?_eq_getElem hu
    by_cases q : S.t k = j
    · have q2 : S.u j = k := by rw [← q, S.ut k hk]
      rw [if_pos q, if_pos (by omega), q2]
      have : (cs.set k y)[k]? = some y := by
        rw [List.getElem?_set, if_pos rfl, if_pos (by omega)]
      rw [getD_of this]
    · have q2 : ¬ k = S.u j := fun z => q (by rw [z, S.tu j hj])
      rw [if_neg q, act_at S f hj]
      have : (cs.set k y)[S.u j]? = some cs[S.u j] := by
        rw [List.getElem?_set, if_neg q2, e]
      rw [getD_of this, getD_of e]
  · rw [List.getElem?_eq_none (by rw [act_len]; omega), List.getElem?_eq_none (by rw [List.length_set, act_len]; omega)]
theorem act_inj {z cs ds : List Nat} (hc : cs.length = n) (hd : ds.length = n) (c1 : ∀ c ∈ cs, c ∈ z) (d1 : ∀ c ∈ ds, c ∈ z) (fi : ∀ a ∈ z, ∀ b ∈ z, f a = f b → a = b) (h : S.act f cs = S.act f ds) : cs = ds := by
  refine List.ext_getElem? fun k => ?_
  by_cases hk : k < n
  · have e1 : cs[k]? = some cs[k] := List.getElem?_eq_getElem (by omega)
    have e2 : ds[k]? = some ds[k] := List.getElem?_eq_getElem (by omega)
    have a1 := act_t S f hc e1
    have a2 := act_t S f hd e2
    rw [h, a2] at a1
    have := fi _ (d1 _ (List.getElem_mem _)) _ (c1 _ (List.getElem_mem _)) (Option.some.inj a1)
    rw [e1, e2, this]
  · rw [List.getElem?_eq_none (by omega), List.getElem?_eq_none (by omega)]
theorem act_map (F F' : Nat → Nat) {z cs : List Nat} (hc : cs.length = n) (c1 : ∀ c ∈ cs, c ∈ z) (hF : ∀ c ∈ z, F' (f c) = f (F c)) : S.act f (cs.map F) = (S.act f cs).map F' := by
  refine List.ext_getElem? fun j => ?_
  by_cases hj : j < n
  · have hu : S.u j < cs.length := by
      have := S.ul j hj
      omega
    have e : cs[S.u j]? = some cs[S.u j] := List.getElem?_eq_getElem hu
    have e2 : (cs.map F)[S.u j]? = some (F cs[S.u j]) := by
      rw [List.getElem?_map, e]
      rfl
    rw [act_at S f hj, List.getElem?_map, act_at S f hj, getD_of e, getD_of e2]
    show _ = some (F' (f cs[S.u j]))
    rw [hF _ (c1 _ (List.getElem_mem _))]
  · rw [List.getElem?_eq_none (by rw [act_len]; omega), List.getElem?_eq_none (by rw [List.length_map, act_len]; omega)]
end
/-! ### what a guard sees -/
def Sees (wh : Str) (k i : Nat) : Prop := (wh = "left" ∧ k < i) ∨ (wh = "right" ∧ i < k) ∨ (wh = "others" ∧ k ≠ i)
theorem see_mem {G : Grd} {z sh : Str} (ok : G.Ok z sh) {cs : List Nat} {i c : Nat} (hi : i < cs.length) : c ∈ gSee G cs i ↔ ∃ k, Sees G.wh k i ∧ cs[k]? = some c := by
  unfold gSee
  rw [List.mem_append]
  have m1 : ∀ c, c ∈ cs.take i ↔ ∃ k, k < i ∧ cs[k]? = some c := fun c => by
    rw [List.mem_iff_getElem?]
    constructor
    · rintro ⟨k, h⟩
      rw [List.getElem?_take] at h
      by_cases hk : k < i
      · rw [if_pos hk] at h
        exact ⟨k, hk, h⟩
      · rw [if_neg hk] at h
        cases h
    · rintro ⟨k, hk, h⟩
      exact ⟨k, by rw [List.getElem?_take, if_pos hk]; exact h⟩
  have m2 : ∀ c, c ∈ cs.drop (i + 1) ↔ ∃ k, i < k ∧ cs[k]? = some c := fun c => by
    rw [List.mem_iff_getElem?]
    constructor
    · rintro ⟨k, h⟩
      rw [List.getElem?_drop] at h
      exact ⟨i + 1 + k, by omega, h⟩
    · rintro ⟨k, hk, h⟩
      exact ⟨k - (i + 1), by rw [List.getElem?_drop, show i + 1 + (k - (i + 1)) = k by omega]; exact h⟩
  rcases ok.wh with e | e | e
  · rw [e, if_neg (by decide), if_pos rfl, m1]
    constructor
    · rintro (⟨k, a, b⟩ | h)
      · exact ⟨k, .inl ⟨rfl, a⟩, b⟩
      · cases h
    · rintro ⟨k, h | h | h, b⟩
      · exact .inl ⟨k, h.2, b⟩
      · exact absurd h.1 (by decide)
      · exact absurd h.1 (by decide)
  · rw [e, if_pos rfl, if_neg (by decide), m2]
    constructor
    · rintro (h | ⟨k, a, b⟩)
      · cases h
      · exact ⟨k, .inr (.inl ⟨rfl, a⟩), b⟩
    · rintro ⟨k, h | h | h, b⟩
      · exact absurd h.1 (by decide)
      · exact .inr ⟨k, h.2, b⟩
      · exact absurd h.1 (by decide)
  · rw [e, if_neg (by decide), if_neg (by decide), m1, m2]
    constructor
    · rintro (⟨k, a, b⟩ | ⟨k, a, b⟩)
      · exact ⟨k, .inr (.inr ⟨rfl, by omega⟩), b⟩
      · exact ⟨k, .inr (.inr ⟨rfl, by omega⟩), b⟩
    · rintro ⟨k, h | h | h, b⟩
      · exact absurd h.1 (by decide)
      · exact absurd h.1 (by decide)
      · by_cases q : k < i
        · exact .inl ⟨k, q, b⟩
        · exact .inr ⟨k, by have := h.2; omega, b⟩
theorem gOk_iff {G : Grd} {z sh : Str} (ok : G.Ok z sh) {cs : List Nat} {i : Nat} (hi : i < cs.length) :
    gOk cs i (some G) = true ↔ (G.how = "all" → ∀ k c, Sees G.wh k i → cs[k]? = some c → c ∈ G.sm) ∧ (¬ G.how = "all" → ∃ k c, Sees G.wh k i ∧ cs[k]? = some c ∧ c ∈ G.sm) := by
  by_cases hh : G.how = "all"
  · rw [gOk_all hh, List.all_eq_true]
    constructor
    · intro h
      exact ⟨fun _ k c s e => of_decide_eq_true (h c ((see_mem ok hi).mpr ⟨k, s, e⟩)), fun h' => absurd hh h'⟩
    · intro h c hc
      obtain ⟨k, s, e⟩ := (see_mem ok hi).mp hc
      exact decide_eq_true (h.1 hh k c s e)
  · rw [gOk_any hh, List.any_eq_true]
    constructor
    · rintro ⟨c, hc, q⟩
      obtain ⟨k, s, e⟩ := (see_mem ok hi).mp hc
      exact ⟨fun h' => absurd h' hh, fun _ => ⟨k, c, s, e, of_decide_eq_true q⟩⟩
    · intro h
      obtain ⟨k, c, s, e, q⟩ := h.2 hh
      exact ⟨c, (see_mem ok hi).mpr ⟨k, s, e⟩, decide_eq_true q⟩
/-- guards that see alike -/
structure GSym {n : Nat} (S : Sym n) (f : Nat → Nat) (z : List Nat) (G G' : Grd) : Prop where
  how : G'.how = G.how
  wh : ∀ k i, k < n → i < n → (Sees G'.wh (S.t k) (S.t i) ↔ Sees G.wh k i)
  sm : ∀ c ∈ z, (f c ∈ G'.sm ↔ c ∈ G.sm)
theorem gOk_sym {n : Nat} {S : Sym n} {f : Nat → Nat} {z : Str} {sh sh' : Str} {G G' : Grd} (g : GSym S f z.cps.toList G G') (ok : G.Ok z sh) (ok' : G'.Ok z sh') {cs : List Nat} (hc : cs.length = n) (c1 : ∀ c ∈ cs, c ∈ z.cps.toList) {i : Nat} (hi : i < n) : gOk (S.act f cs) (S.t i) (some G') = gOk cs i (some G) := by
  rw [Bool.eq_iff_iff, gOk_iff ok (by omega), gOk_iff ok' (by rw [act_len]; exact S.tl i hi), g.how]
  refine and_congr ⟨fun h a k c s e => ?_, fun h a j d s e => ?_⟩ ⟨fun h a => ?_, fun h a => ?_⟩
  · have hk : k < n := by rw [← hc]; exact (List.getElem?_eq_some_iff.mp e).1
    exact (g.sm c (c1 c (List.mem_of_getElem? e))).mp (h a (S.t k) (f c) ((g.wh k i hk hi).mpr s) (act_t S f hc e))
  · obtain ⟨k, c, hk, rfl, ec, rfl⟩ := act_back S f hc e
    exact (g.sm c (c1 c (List.mem_of_getElem? ec))).mpr (h a k c ((g.wh k i hk hi).mp s) ec)
  · obtain ⟨j, d, s, e, q⟩ := h a
    obtain ⟨k, c, hk, rfl, ec, rfl⟩ := act_back S f hc e
    exact ⟨k, c, (g.wh k i hk hi).mp s, ec, (g.sm c (c1 c (List.mem_of_getElem? ec))).mp q⟩
  · obtain ⟨k, c, s, e, q⟩ := h a
    have hk : k < n := by rw [← hc]; exact (List.getElem?_eq_some_iff.mp e).1
    exact ⟨S.t k, f c, (g.wh k i hk hi).mpr s, act_t S f hc e, (g.sm c (c1 c (List.mem_of_getElem? e))).mpr q⟩
/-! ### members -/
theorem mem_aOne {x y : Nat} {g : Option Grd} {cs w : List Nat} : w ∈ aOne x y g cs cs.length ↔ ∃ i, cs[i]? = some x ∧ gOk cs i g = true ∧ cs.set i y = w := by
  unfold aOne
  rw [List.mem_map]
  constructor
  · rintro ⟨i, hi, rfl⟩
    have := (List.mem_filter.mp hi).2
    rw [Bool.and_eq_true, decide_eq_true_eq] at this
    exact ⟨i, this.1, this.2, rfl⟩
  · rintro ⟨i, h1, h2, rfl⟩
    refine ⟨i, List.mem_filter.mpr ⟨List.mem_range.mpr (List.getElem?_eq_some_iff.mp h1).1, ?_⟩, rfl⟩
    rw [Bool.and_eq_true, decide_eq_true_eq]
    exact ⟨h1, h2⟩
theorem mem_aTwo {x y u v : Nat} {cs w : List Nat} {ps : List (Nat × Nat)} : w ∈ aTwo x y u v cs ps ↔ ∃ p q, (p, q) ∈ ps ∧ cs[p]? = some x ∧ cs[q]? = some y ∧ (cs.set p u).set q v = w := by
  unfold aTwo
  rw [List.mem_map]
  constructor
  · rintro ⟨⟨p, q⟩, hp, rfl⟩
    obtain ⟨h1, h2⟩ := List.mem_filter.mp hp
    rw [Bool.and_eq_true, decide_eq_true_eq, decide_eq_true_eq] at h2
    exact ⟨p, q, h1, h2.1, h2.2, rfl⟩
  · rintro ⟨p, q, h1, h2, h3, rfl⟩
    refine ⟨(p, q), List.mem_filter.mpr ⟨h1, ?_⟩, rfl⟩
    rw [Bool.and_eq_true, decide_eq_true_eq, decide_eq_true_eq]
    exact ⟨h2, h3⟩
theorem mem_aCall {x y : Nat} {z : Str} {im cs w : List Nat} : w ∈ aCall x y z im cs cs.length ↔ ∃ i, cs[i]? = some x ∧ (cs.map (imOf z im)).set i y = w := by
  unfold aCall
  rw [List.mem_map]
  constructor
  · rintro ⟨i, hi, rfl⟩
    have := (List.mem_filter.mp hi).2
    rw [decide_eq_true_eq] at this
    exact ⟨i, this, rfl⟩
  · rintro ⟨i, h1, rfl⟩
    refine ⟨i, List.mem_filter.mpr ⟨List.mem_range.mpr (List.getElem?_eq_some_iff.mp h1).1, ?_⟩, rfl⟩
    rw [decide_eq_true_eq]
    exact h1
theorem mem_prs {sh : Str} {n p q : Nat} : (p, q) ∈ prs sh n ↔ (q = p + 1 ∧ q < n) ∨ (sh = "ring" ∧ 1 < n ∧ p = n - 1 ∧ q = 0) := by
  unfold prs
  rw [List.mem_append, List.mem_map]
  constructor
  · rintro (⟨i, hi, e⟩ | h)
    · have := List.mem_range.mp hi
      obtain ⟨rfl, rfl⟩ := Prod.mk.inj e
      exact .inl ⟨rfl, by omega⟩
    · split at h
      · rename_i c
        have := List.mem_singleton.mp h
        obtain ⟨rfl, rfl⟩ := Prod.mk.inj this
        exact .inr ⟨c.1, c.2, rfl, rfl⟩
      · cases h
  · rintro (⟨rfl, h⟩ | ⟨h1, h2, rfl, rfl⟩)
    · exact .inl ⟨p, List.mem_range.mpr (by omega), rfl⟩
    · rw [if_pos ⟨h1, h2⟩]
      exact .inr (List.mem_singleton.mpr rfl)
/-! ### rules that go along -/
inductive RSym {n : Nat} (S : Sym n) (f : Nat → Nat) (z sh : Str) : Rul → Rul → Prop
  | one (x y : Nat) : RSym S f z sh (.one x y none) (.one (f x) (f y) none)
  | grd (x y : Nat) (G G' : Grd) (g : GSym S f z.cps.toList G G') (ok : G.Ok z sh) (ok' : G'.Ok z sh) : RSym S f z sh (.one x y (some G)) (.one (f x) (f y) (some G'))
  | two (x y u v : Nat) (h : ∀ p q, p < n → q < n → ((S.t p, S.t q) ∈ prs sh n ↔ (p, q) ∈ prs sh n)) : RSym S f z sh (.two x y u v) (.two (f x) (f y) (f u) (f v))
  | owt (x y u v : Nat) (h : ∀ p q, p < n → q < n → ((S.t q, S.t p) ∈ prs sh n ↔ (p, q) ∈ prs sh n)) : RSym S f z sh (.two x y u v) (.two (f y) (f x) (f v) (f u))
  | call (x y : Nat) (im im' : List Nat) (h : ∀ c ∈ z.cps.toList, imOf z im' (f c) = f (imOf z im c)) : RSym S f z sh (.call x y im) (.call (f x) (f y) im')
theorem sym_all {n : Nat} {S : Sym n} {f : Nat → Nat} {z sh : Str} {R R' : Rul} (r : RSym S f z sh R R') (ok : R.Ok z sh) (fi : ∀ a ∈ z.cps.toList, ∀ b ∈ z.cps.toList, f a = f b → a = b) {cs : List Nat} (hc : cs.length = n) (c1 : ∀ c ∈ cs, c ∈ z.cps.toList) (w : List Nat) :
    w ∈ aAll z sh (S.act f cs) R' ↔ ∃ v ∈ aAll z sh cs R, S.act f v = w := by
  have al : (S.act f cs).length = n := act_len S f cs
  have at_ : ∀ {k x : Nat}, x ∈ z.cps.toList → (S.act f cs)[S.t k]? = some (f x) → k < n → cs[k]? = some x := fun {k x} hx h hk => by
    have e : cs[k]? = some cs[k] := List.getElem?_eq_getElem (by omega)
    have h2 := act_t S f hc e
    rw [h] at h2
    rw [e, fi x hx _ (c1 _ (List.getElem_mem _)) (Option.some.inj h2)]
  have lt : ∀ {k x : Nat}, cs[k]? = some x → k < n := fun h => by
    rw [← hc]
    exact (List.getElem?_eq_some_iff.mp h).1
  cases r with
  | one x y =>
    show w ∈ aOne _ _ _ _ (S.act f cs).length ↔ ∃ v ∈ aOne x y none cs cs.length, _
    rw [mem_aOne]
    constructor
    · rintro ⟨j, h1, _, rfl⟩
      obtain ⟨k, c, hk, rfl, _, _⟩ := act_back S f hc h1
      exact ⟨cs.set k y, mem_aOne.mpr ⟨k, at_ ok.1 h1 hk, rfl, rfl⟩, act_set S f hc hk y⟩
    · rintro ⟨v, hv, rfl⟩
      obtain ⟨k, h1, _, rfl⟩ := mem_aOne.mp hv
      exact ⟨S.t k, act_t S f hc h1, rfl, (act_set S f hc (lt h1) y).symm⟩
  | grd x y G G' g ok1 ok2 =>
    show w ∈ aOne _ _ _ _ (S.act f cs).length ↔ ∃ v ∈ aOne x y (some G) cs cs.length, _
    rw [mem_aOne]
    constructor
    · rintro ⟨j, h1, h2, rfl⟩
      obtain ⟨k, c, hk, rfl, _, _⟩ := act_back S f hc h1
      rw [gOk_sym g ok1 ok2 hc c1 hk] at h2
      exact ⟨cs.set k y, mem_aOne.mpr ⟨k, at_ ok.1 h1 hk, h2, rfl⟩, act_set S f hc hk y⟩
    · rintro ⟨v, hv, rfl⟩
      obtain ⟨k, h1, h2, rfl⟩ := mem_aOne.mp hv
      rw [← gOk_sym g ok1 ok2 hc c1 (lt h1)] at h2
      exact ⟨S.t k, act_t S f hc h1, h2, (act_set S f hc (lt h1) y).symm⟩
  | two x y u v h =>
    show w ∈ aTwo _ _ _ _ _ (prs sh (S.act f cs).length) ↔ ∃ w' ∈ aTwo x y u v cs (prs sh cs.length), _
    rw [mem_aTwo, al, hc]
    constructor
    · rintro ⟨p, q, h0, h1, h2, rfl⟩
      obtain ⟨k, _, hk, rfl, _, _⟩ := act_back S f hc h1
      obtain ⟨m, _, hm, rfl, _, _⟩ := act_back S f hc h2
      refine ⟨(cs.set k u).set m v, mem_aTwo.mpr ⟨k, m, (h k m hk hm).mp h0, at_ ok.1 h1 hk, at_ ok.2.1 h2 hm, rfl⟩, ?_⟩
      rw [act_set S f (by rw [List.length_set]; exact hc) hm, act_set S f hc hk]
    · rintro ⟨w', hw, rfl⟩
      obtain ⟨k, m, h0, h1, h2, rfl⟩ := mem_aTwo.mp hw
      refine ⟨S.t k, S.t m, (h k m (lt h1) (lt h2)).mpr h0, act_t S f hc h1, act_t S f hc h2, ?_⟩
      rw [act_set S f (by rw [List.length_set]; exact hc) (lt h2), act_set S f hc (lt h1)]
  | owt x y u v h =>
    have ne : ∀ {p q : Nat}, (p, q) ∈ prs sh n → p ≠ q := fun h => by
      rcases mem_prs.mp h with h | h <;> omega
    show w ∈ aTwo _ _ _ _ _ (prs sh (S.act f cs).length) ↔ ∃ w' ∈ aTwo x y u v cs (prs sh cs.length), _
    rw [mem_aTwo, al, hc]
    constructor
    · rintro ⟨p, q, h0, h1, h2, rfl⟩
      obtain ⟨m, _, hm, rfl, _, _⟩ := act_back S f hc h1
      obtain ⟨k, _, hk, rfl, _, _⟩ := act_back S f hc h2
      refine ⟨(cs.set k u).set m v, mem_aTwo.mpr ⟨k, m, (h k m hk hm).mp h0, at_ ok.1 h2 hk, at_ ok.2.1 h1 hm, rfl⟩, ?_⟩
      rw [act_set S f (by rw [List.length_set]; exact hc) hm, act_set S f hc hk, List.set_comm _ _ (ne h0).symm]
    · rintro ⟨w', hw, rfl⟩
      obtain ⟨k, m, h0, h1, h2, rfl⟩ := mem_aTwo.mp hw
      have h0' := (h k m (lt h1) (lt h2)).mpr h0
      refine ⟨S.t m, S.t k, h0', act_t S f hc h2, act_t S f hc h1, ?_⟩
      rw [act_set S f (by rw [List.length_set]; exact hc) (lt h2), act_set S f hc (lt h1), List.set_comm _ _ (ne h0').symm]
  | call x y im im' h =>
    have em : S.act f (cs.map (imOf z im)) = (S.act f cs).map (imOf z im') := act_map S f (imOf z im) (imOf z im') hc c1 h
    show w ∈ aCall _ _ _ _ _ (S.act f cs).length ↔ ∃ v ∈ aCall x y z im cs cs.length, _
    rw [mem_aCall]
    constructor
    · rintro ⟨j, h1, rfl⟩
      obtain ⟨k, c, hk, rfl, _, _⟩ := act_back S f hc h1
      refine ⟨(cs.map (imOf z im)).set k y, mem_aCall.mpr ⟨k, at_ ok.1 h1 hk, rfl⟩, ?_⟩
      rw [act_set S f (by rw [List.length_map]; exact hc) hk, em]
    · rintro ⟨v, hv, rfl⟩
      obtain ⟨k, h1, rfl⟩ := mem_aCall.mp hv
      refine ⟨S.t k, act_t S f hc h1, ?_⟩
      rw [act_set S f (by rw [List.length_map]; exact hc) (lt h1), em]
/-! ### what comes keeps length and letters -/
theorem aAll_ok {z sh : Str} {R : Rul} (ok : R.Ok z sh) {cs : List Nat} (c1 : ∀ c ∈ cs, c ∈ z.cps.toList) {w : List Nat} (h : w ∈ aAll z sh cs R) : w.length = cs.length ∧ ∀ c ∈ w, c ∈ z.cps.toList := by
  have ms : ∀ {ds : List Nat} {k d : Nat}, (∀ c ∈ ds, c ∈ z.cps.toList) → d ∈ z.cps.toList → ∀ c ∈ ds.set k d, c ∈ z.cps.toList := fun {ds k d} h1 h2 c hc => by
    rcases List.mem_or_eq_of_mem_set hc with e | e
    · exact h1 c e
    · rw [e]
      exact h2
  cases R with
  | one x y g =>
    obtain ⟨i, _, _, rfl⟩ := mem_aOne.mp h
    exact ⟨List.length_set .., ms c1 ok.2.1⟩
  | two x y u v =>
    obtain ⟨p, q, _, _, _, rfl⟩ := mem_aTwo.mp h
    exact ⟨by rw [List.length_set, List.length_set], ms (ms c1 ok.2.2.1) ok.2.2.2⟩
  | call x y im =>
    obtain ⟨i, _, rfl⟩ := mem_aCall.mp h
    refine ⟨by rw [List.length_set, List.length_map], ms (fun c hc => ?_) ok.2.1⟩
    obtain ⟨d, hd, rfl⟩ := List.mem_map.mp hc
    have hi : z.cps.toList.idxOf d < im.length := by
      rw [ok.2.2.1]
      exact idx_lt (c1 d hd)
    unfold imOf
    rw [List.getD_eq_getElem?_getD, List.getElem?_eq_getElem hi]
    exact ok.2.2.2 _ (List.getElem_mem hi)
end LH

namespace LH
open PySem PySem.Spec PyProof.Rows L2
/-! ### texts one behind the other, worlds (no more than every law of worlds wants) -/
theorem sl_app (a b : Str) : (a ++ b).length = a.length + b.length := by
  show (a.cps ++ b.cps).size = _
  rw [Array.size_append]
  rfl
theorem st_app (a b : Str) : (a ++ b).cps.toList = a.cps.toList ++ b.cps.toList := by
  show (a.cps ++ b.cps).toList = _
  rw [Array.toList_append]
theorem st_ext {a b : Str} (h : a.cps.toList = b.cps.toList) : a = b := by
  have := congrArg List.toArray h
  exact congrArg Str.mk this
theorem st_empty : Str.empty.cps.toList = [] := rfl
theorem fit {s : Str} (h : s.length ≤ 1000) : s.length ≤ sizeLine := Nat.le_trans h (by decide)
theorem sl_sg (c : Nat) : (sg c).length = 1 := rfl
theorem tx_len' (cs : List Nat) : (tx cs).length = cs.length := List.size_toArray
theorem sl_empty : Str.empty.length = 0 := rfl
theorem fit2 {a b : Str} (h : a.length + b.length ≤ 1000) : a.length + b.length ≤ sizeLine := Nat.le_trans h (by decide)
structure Wd where
  z : Str
  sh : Str
  rs : List Rul
  b : Str
  d : Str
structure Wd.Ok (W : Wd) : Prop where
  let_ : IsLet W.z
  sh : W.sh = "row" ∨ W.sh = "ring"
  many : W.rs.length ≤ 8
  rs : ∀ R ∈ W.rs, R.Ok W.z W.sh
  b : W.b.length ≤ 30
  d : W.d.length ≤ 30
  bs : ∀ c ∈ W.b.cps.toList, c ≤ 124
  ds : ∀ c ∈ W.d.cps.toList, c ≤ 124
def WdAt (H : Hp) (a : Addr) (W : Wd) : Prop := ∃ (r : Addr) (ps : List Addr), H a = some (.tup [.str W.z, .str W.sh, .ref r, .str W.b, .str W.d]) ∧ H r = some (.tup (vr ps)) ∧ ps.length = W.rs.length ∧ ∀ (i : Nat) (p : Addr) (R : Rul), ps[i]? = some p → W.rs[i]? = some R → RulAt H p R
theorem WdAt.mono {H H' : Hp} {a : Addr} {W : Wd} (t : Tups H H') (h : WdAt H a W) : WdAt H' a W := by
  obtain ⟨r, ps, e1, e2, l, q⟩ := h
  exact ⟨r, ps, t _ _ e1, t _ _ e2, l, fun i p R x y => (q i p R x y).mono t⟩
theorem sum_le {l : List Nat} {n : Nat} (h : ∀ x ∈ l, x ≤ n) : l.sum ≤ l.length * n := by
  induction l with
  | nil => simp
  | cons a r ih =>
    have h1 := h a List.mem_cons_self
    have h2 := ih fun x hx => h x (List.mem_cons_of_mem _ hx)
    rw [List.sum_cons, List.length_cons, Nat.succ_mul]
    omega
theorem str_at {zs : List Str} {i : Nat} {x : V} (h : (zs.map V.str)[i]? = some x) : ∃ y, zs[i]? = some y ∧ x = .str y := by
  rw [List.getElem?_map] at h
  cases e : zs[i]? with
  | none =>
    rw [e] at h
    cases h
  | some y =>
    rw [e] at h
    cases h
    exact ⟨y, rfl, rfl⟩
theorem ref_at {zs : List Addr} {i : Nat} {x : V} (h : (vr zs)[i]? = some x) : ∃ y, zs[i]? = some y ∧ x = .ref y := by
  rw [List.getElem?_map] at h
  cases e : zs[i]? with
  | none =>
    rw [e] at h
    cases h
  | some y =>
    rw [e] at h
    cases h
    exact ⟨y, rfl, rfl⟩
theorem take_len' {α : Type} (i : Nat) (cs : List α) : (cs.take i).length ≤ cs.length := by
  rw [List.length_take]
  omega
end LH

namespace LH
open PySem PySem.Spec PyProof.Rows L2
def RulsAt (H : Hp) (ps : List Addr) (rs : List Rul) : Prop := ps.length = rs.length ∧ ∀ (i : Nat) (p : Addr) (R : Rul), ps[i]? = some p → rs[i]? = some R → RulAt H p R
theorem RulsAt.mono {H H' : Hp} {ps : List Addr} {rs : List Rul} (t : Tups H H') (h : RulsAt H ps rs) : RulsAt H' ps rs := ⟨h.1, fun i p R x y => (h.2 i p R x y).mono t⟩
theorem RulsAt.snoc {H : Hp} {ps : List Addr} {rs : List Rul} {p : Addr} {R : Rul} (h : RulsAt H ps rs) (hp : RulAt H p R) : RulsAt H (ps ++ [p]) (rs ++ [R]) := by
  refine ⟨by rw [List.length_append, List.length_append, h.1]; rfl, fun i a b x y => ?_⟩
  by_cases hi : i < ps.length
  · rw [List.getElem?_append_left hi] at x
    rw [List.getElem?_append_left (by rw [← h.1]; exact hi)] at y
    exact h.2 i a b x y
  · rw [List.getElem?_append_right (by omega)] at x
    rw [List.getElem?_append_right (by rw [← h.1]; omega), ← h.1] at y
    have h0 : i - ps.length = 0 := by
      have := (List.getElem?_eq_some_iff.mp x).1
      have e : ([p] : List Addr).length = 1 := rfl
      omega
    rw [h0] at x y
    cases x
    cases y
    exact hp
theorem RulsAt.cons {H : Hp} {ps : List Addr} {rs : List Rul} {p : Addr} {R : Rul} (hp : RulAt H p R) (h : RulsAt H ps rs) : RulsAt H (p :: ps) (R :: rs) := by
  refine ⟨by rw [List.length_cons, List.length_cons, h.1], fun i a b x y => ?_⟩
  cases i with
  | zero =>
    cases x
    cases y
    exact hp
  | succ i => exact h.2 i a b x y
theorem RulsAt.nil {H : Hp} : RulsAt H [] [] := ⟨rfl, fun i p R x => by simp at x⟩
end LH

namespace LH
open PySem PySem.Spec PyProof.Rows L2
section
variable {P : Program} {w : World} {K : PySem.W.Frag} {mg : Str → Option Value} {base : Heap}
def sp_law_cell_at (K : PySem.W.Frag) : Sp := fun vs H Q _ => ∃ (a : Addr) (ns : List Int) (k : Nat), vs = [.ref a, .int (k : Int)] ∧ SqL K H a (ns.map V.int) ∧ ∀ c, Q (.int c) H
theorem ok_law_cell_at (T : TX K mg) : FnOk P w K mg base CX0 1 T.a_law_cell_at T.fd_law_cell_at ["script", "k"] (sp_law_cell_at K) := by
  refine T.F_law_cell_at.ok sc_law_cell_at (fun vs H Q E h => ?_) (fun cdv A outer s H vs Q E hr h => ?_)
  · obtain ⟨a, ns, k, rfl, _⟩ := h
    rfl
  · obtain ⟨a, ns, k, rfl, hS, q⟩ := h
    refine ⟨_, (pss_cons (ps_if (pt_cmpR op_lt (pv 1) (pe_callB (call_lenK K rfl) (by rfl) T.m_len (by decide +kernel) (pa_cons (pv 0) pa_nil)) (nomark _))
        (pss_one (ps_ret (pe_ix (ix_listK K rfl) (pv 0) (pv 1) (fun _ _ => rfl))))
        pss_nil)
      (pss_one (ps_ret pe_int))), ?_⟩
    refine ⟨.int (k : Int), rfl, .ref a, rfl, a, _, rfl, .inl hS, (k : Int), _, rfl, rfl, _, rfl, ite2 (fun e => ?_) (fun e => ?_)⟩
    · have e := of_decide_eq_true e
      rw [List.length_map] at e
      have lt : k < ns.length := by omega
      refine ⟨.ref a, rfl, .int (k : Int), rfl, a, _, (k : Int), .int ns[k], rfl, rfl, hS, atI_nat ?_, q _⟩
      rw [List.getElem?_map, List.getElem?_eq_getElem lt]
      rfl
    · exact q _
/-! ### _law_take -/
def sp_law_take : Sp := fun vs H Q _ => ∃ (r : Addr) (n : Int) (k : Nat), vs = [.ref r, .int n] ∧ RowAt H r k ∧ k ≤ 1000000 ∧ 0 < n ∧ n < 1073741824 ∧ ∀ H' g, Off r H H' → RowAt H' r (k + 1) → 0 ≤ g → g < n → Q (.int g) H'
theorem ok_law_take (T : TX K mg) : FnOk P w K mg base CX0 1 T.a_law_take T.fd_law_take ["deck", "many"] sp_law_take := by
  refine T.F_law_take.ok sc_law_take (fun vs H Q E h => ?_) (fun cdv A outer s H vs Q E hr h => ?_)
  · obtain ⟨r, n, k, rfl, _⟩ := h
    rfl
  · obtain ⟨r, n, k, rfl, ⟨a, b, c, hrow, hc0, hc1⟩, hk, hn0, hn1, q⟩ := h
    refine ⟨_, (pss_cons (ps_if (pt_cmpR op_eq (pe_ix (ix_listK K rfl) (pv 0) pe_int (fun _ _ => rfl)) pe_int (nomark _))
        (pss_cons (ps_set (i := 2) sc_law_take.nd rfl (Or.inl rfl) (pe_op op_mod (pe_ix (ix_listK K rfl) (pv 0) pe_int (fun _ _ => rfl)) (pv 1)))
          (pss_cons (ps_asg (pe_op op_fdiv (pe_ix (ix_listK K rfl) (pv 0) pe_int (fun _ _ => rfl)) (pv 1)) (pg_sub (pv 0) pe_int set_list))
          (pss_one (ps_ret (pv 2)))))
        pss_nil)
      (pss_cons (ps_asg (pe_op op_add (pe_ix (ix_listK K rfl) (pv 0) pe_int (fun _ _ => rfl)) pe_int) (pg_sub (pv 0) pe_int set_list))
      (pss_cons (ps_set (i := 3) sc_law_take.nd rfl (Or.inl rfl) (pe_op op_mul (pe_op op_mod (pe_ix (ix_listK K rfl) (pv 0) pe_int (fun _ _ => rfl)) pe_int) (pe_op op_add (pe_op op_mul (pe_ix (ix_listK K rfl) (pv 0) pe_int (fun _ _ => rfl)) (pe_ix (ix_listK K rfl) (pv 0) pe_int (fun _ _ => rfl))) pe_int)))
      (pss_cons (ps_set (i := 3) sc_law_take.nd rfl (Or.inl rfl) (pe_op op_mod (pe_op op_add (pe_op op_add (pv 3) (pe_ix (ix_listK K rfl) (pv 0) pe_int (fun _ _ => rfl))) pe_int) pe_int))
      (pss_cons (ps_set (i := 3) sc_law_take.nd rfl (Or.inl rfl) (pe_op op_mod (pe_op op_mul (pv 3) (pv 3)) pe_int))
      (pss_one (ps_ret (pe_op op_mod (pe_op op_fdiv (pe_op op_mod (pe_op op_mul (pv 3) pe_int) pe_int) pe_int) (pv 1))))))))), ?_⟩
    have sq : SqL K H r [.int a, .int b, .int c] := .inl (.inl hrow)
    refine ⟨.ref r, rfl, r, _, 1, .int b, rfl, rfl, sq, atI_nat (j := 1) rfl, rfl, _, rfl, ite2 (fun e => ?_) (fun e => ?_)⟩
    · refine ⟨.ref r, rfl, r, _, 0, .int a, rfl, rfl, sq, atI_nat (j := 0) rfl, .int n, rfl, a, n, rfl, rfl, hn0, ?_⟩
      refine ⟨.ref r, rfl, r, _, 0, .int a, rfl, rfl, sq, atI_nat (j := 0) rfl, .int n, rfl, a, n, rfl, rfl, ⟨hn0, hn1⟩, ?_⟩
      refine ⟨.ref r, rfl, r, _, 0, 0, rfl, rfl, hrow, rfl, ?_⟩
      refine ⟨.int (a % n), rfl, ?_⟩
      exact q _ _ Off.put ⟨a / n, b, c, upd_same, hc0, by omega⟩ (Int.emod_nonneg _ (by omega)) (Int.emod_lt_of_pos _ hn0)
    · refine ⟨.ref r, rfl, r, _, 2, .int c, rfl, rfl, sq, atI_nat (j := 2) rfl, c, 1, rfl, rfl, ?_⟩
      refine ⟨.ref r, rfl, r, _, 2, 2, rfl, rfl, hrow, rfl, ?_⟩
      have e2 : (upd H r (.lst [.int a, .int b, .int (c + 1)])) r = some (.lst [.int a, .int b, .int (c + 1)]) := upd_same
      have o2 : Off r H (upd H r (.lst [.int a, .int b, .int (c + 1)])) := Off.put
      show _
      generalize hH2 : upd H r (.lst [.int a, .int b, .int (c + 1)]) = H2 at e2 o2
      have sq2 : SqL K H2 r [.int a, .int b, .int (c + 1)] := .inl (.inl e2)
      have a0 : 0 ≤ a % 2147483647 := Int.emod_nonneg _ (by decide)
      have a1 : a % 2147483647 < 2147483647 := Int.emod_lt_of_pos _ (by decide)
      refine (show _ from hH2 ▸ ?_)
      refine ⟨.ref r, rfl, r, _, 0, .int a, rfl, rfl, sq2, atI_nat (j := 0) rfl, a, 2147483647, rfl, rfl, (by show (0 : Int) < 2147483647; decide), .ref r, rfl, r, _, 2, .int (c + 1), rfl, rfl, sq2, atI_nat (j := 2) rfl, .ref r, rfl, r, _, 2, .int (c + 1), rfl, rfl, sq2, atI_nat (j := 2) rfl, c + 1, c + 1, rfl, rfl, .inl ⟨by omega, by omega⟩, _, 48271, rfl, rfl, a % 2147483647, _, rfl, rfl, .inl ⟨by omega, by omega⟩, ?_⟩
      obtain ⟨N, hN⟩ : ∃ N : Int, N = a % 2147483647 * ((c + 1) * (c + 1) + 48271) := ⟨_, rfl⟩
      refine ⟨.int N, by rw [hN]; rfl, .ref r, rfl, r, _, 2, .int (c + 1), rfl, rfl, sq2, atI_nat (j := 2) rfl, N, c + 1, rfl, rfl, N + (c + 1), 7, rfl, rfl, _, _, rfl, rfl, (by show (0 : Int) < 2147483629; decide), ?_⟩
      obtain ⟨S, hS⟩ : ∃ S : Int, S = (N + (c + 1) + 7) % 2147483629 := ⟨_, rfl⟩
      have t0 : 0 ≤ S := by rw [hS]; exact Int.emod_nonneg _ (by decide)
      have t1 : S < 2147483629 := by rw [hS]; exact Int.emod_lt_of_pos _ (by decide)
      refine ⟨.int S, by rw [hS]; rfl, .int S, by rw [hS]; rfl, S, S, rfl, rfl, .inl ⟨by omega, by omega⟩, _, _, rfl, rfl, (by show (0 : Int) < 2147483587; decide), ?_⟩
      obtain ⟨U, hU⟩ : ∃ U : Int, U = S * S % 2147483587 := ⟨_, rfl⟩
      have u0 : 0 ≤ U := by rw [hU]; exact Int.emod_nonneg _ (by decide)
      have u1 : U < 2147483587 := by rw [hU]; exact Int.emod_lt_of_pos _ (by decide)
      refine ⟨.int U, by rw [hU]; rfl, U, 69621, rfl, rfl, .inl ⟨by omega, by omega⟩, _, _, rfl, rfl, (by show (0 : Int) < 2147483563; decide), _, 8, rfl, rfl, ⟨by decide, by decide⟩, .int n, rfl, _, n, rfl, rfl, hn0, ?_⟩
      exact q _ _ o2 ⟨a, b, c + 1, e2, by omega, by omega⟩ (Int.emod_nonneg _ (by omega)) (Int.emod_lt_of_pos _ hn0)
/-! ### _law_deck -/
def sp_law_deck : Sp := fun vs H Q _ => ∃ (c : Int) (k : Nat), vs = [.int c, .int (k : Int)] ∧ ∀ H' p, Same H H' → H p = none → RowAt H' p k → Q (.ref p) H'
theorem ok_law_deck (T : TX K mg) : FnOk P w K mg base CX0 1 T.a_law_deck T.fd_law_deck ["cell", "k"] sp_law_deck := by
  refine T.F_law_deck.ok sc_law_deck (fun vs H Q E h => ?_) (fun cdv A outer s H vs Q E hr h => ?_)
  · obtain ⟨c, k, rfl, _⟩ := h
    rfl
  · obtain ⟨c, k, rfl, q⟩ := h
    refine ⟨_, (pss_cons (ps_if (pt_cmpR op_ge (pv 0) (pe_op op_pow pe_int pe_int) (nomark _))
        (pss_one (ps_ret (pe_lst (pa_cons (pe_op op_sub (pv 0) (pe_op op_pow pe_int pe_int)) (pa_cons pe_int (pa_cons (pv 1) pa_nil))))))
        pss_nil)
      (pss_one (ps_ret (pe_lst (pa_cons (pv 0) (pa_cons pe_int (pa_cons (pv 1) pa_nil))))))), ?_⟩
    refine ⟨.int c, rfl, 10, 18, rfl, rfl, ⟨by decide, by decide, by decide⟩, c, 10 ^ 18, rfl, rfl, _, rfl, ite2 (fun e => ?_) (fun e => ?_)⟩
    · refine ⟨.int c, rfl, 10, 18, rfl, rfl, ⟨by decide, by decide, by decide⟩, c, 10 ^ 18, rfl, rfl, .int (k : Int), rfl, by show 3 ≤ sizeLine; decide, fun p hp => ?_⟩
      exact q _ p (same_new hp) hp ⟨_, _, _, upd_same, by omega, Int.le_refl _⟩
    · refine ⟨.int c, rfl, .int (k : Int), rfl, by show 3 ≤ sizeLine; decide, fun p hp => ?_⟩
      exact q _ p (same_new hp) hp ⟨_, _, _, upd_same, by omega, Int.le_refl _⟩
end
end LH

namespace LH
open PySem PySem.Spec PyProof.Rows L2
/-! ### patterns: nothing but short texts -/
theorem mark4 {g : Int} (h0 : 0 ≤ g) (h1 : g < 4) : ∃ y : Str, atI [V.str "", V.str "", V.str "*", V.str "+"] g = some (.str y) ∧ y.length ≤ 1 := by
  have : g = 0 ∨ g = 1 ∨ g = 2 ∨ g = 3 := by omega
  rcases this with rfl | rfl | rfl | rfl
  · exact ⟨_, rfl, by decide⟩
  · exact ⟨_, rfl, by decide⟩
  · exact ⟨_, rfl, by decide⟩
  · exact ⟨_, rfl, by decide⟩
theorem mark2 {g : Int} (h0 : 0 ≤ g) (h1 : g < 2) : ∃ y : Str, atI [V.str "", V.str "+"] g = some (.str y) ∧ y.length ≤ 1 := by
  have : g = 0 ∨ g = 1 := by omega
  rcases this with rfl | rfl
  · exact ⟨_, rfl, by decide⟩
  · exact ⟨_, rfl, by decide⟩
theorem sign_drawn {z : Str} {k : Nat} {m : Int} (a1 : (k : Int) < (z.length : Nat)) (hm : m = (k : Int)) : ∃ c, c ∈ z.cps.toList ∧ atI z.cps.toList m = some c := by
  have hk : k < z.cps.toList.length := by
    rw [Array.length_toList]
    have : (k : Int) < (z.cps.size : Nat) := a1
    omega
  exact ⟨z.cps.toList[k], List.getElem_mem hk, by rw [hm]; exact atI_nat (List.getElem?_eq_getElem hk)⟩
theorem sum_len_le {n : Nat} {l : List Str} (h : ∀ y ∈ l, y.length ≤ n) : (l.map (·.length)).sum ≤ l.length * n := by
  have := sum_le (l := l.map (·.length)) (n := n) fun x hx => by
    obtain ⟨y, hy, rfl⟩ := List.mem_map.mp hx
    exact h y hy
  rwa [List.length_map] at this
theorem join_len {s : Str} {k n : Nat} (hs : s.length ≤ k) : ∀ {parts : List Str}, (∀ p ∈ parts, p.length ≤ n) → (Txt.join s parts).length ≤ parts.length * (n + k) := fun {parts} h => by
  rw [TL.join_eq]
  induction parts with
  | nil => show (0 : Nat) ≤ _; exact Nat.zero_le _
  | cons p r ih =>
    cases r with
    | nil =>
      show p.length ≤ _
      have := h p List.mem_cons_self
      rw [List.length_cons, List.length_nil]
      omega
    | cons p2 r2 =>
      show (p ++ s ++ Str.join s (p2 :: r2)).length ≤ _
      have h1 := ih fun x hx => h x (List.mem_cons_of_mem _ hx)
      have h2 := h p List.mem_cons_self
      rw [sl_app, sl_app, List.length_cons (a := p), Nat.succ_mul]
      omega
section
variable {P : Program} {w : World} {K : PySem.W.Frag} {mg : Str → Option Value} {base : Heap}
/-- a text no longer than n, j takes at most -/
def sp_txt (n j b : Nat) : Sp := fun vs H Q _ => ∃ (r : Addr) (z : Str) (k : Nat), vs = [.ref r, .str z] ∧ RowAt H r k ∧ k ≤ b ∧ IsLet z ∧ ∀ H' (y : Str), Off r H H' → RowAt H' r (k + j) → y.length ≤ n → Q (.str y) H'
theorem ok_law_item (T : TX K mg) : FnOk P w K mg base CX0 2 T.a_law_item T.fd_law_item ["deck", "letters"] (sp_txt 8 8 950000) := by
  have G_law_take : FnOk P w K mg base CX0 1 T.a_law_take T.fd_law_take ["deck", "many"] sp_law_take := ok_law_take T
  refine T.F_law_item.ok sc_law_item (fun vs H Q E h => ?_) (fun cdv A outer s H vs Q E hr h => ?_)
  · obtain ⟨r, z, k, rfl, _⟩ := h
    rfl
  · obtain ⟨r, z, k, rfl, hR, hk, hz, q⟩ := h
    refine ⟨_, (pss_cons (ps_set (i := 2) sc_law_item.nd rfl (Or.inl rfl) (pe_call G_law_take (hr.mono (by decide)) (by rfl) T.g_law_take T.F_law_take.kp T.b_law_take .nil pass0 (pa_cons (pv 0) (pa_cons pe_int pa_nil))))
      (C8.pss_cut (ps_if (pt_cmpR op_lt (pv 2) pe_int (nomark _))
        (pss_one (ps_set (i := 3) sc_law_item.nd rfl (Or.inl rfl) (pe_ix ix_str (pv 1) (pe_call G_law_take (hr.mono (by decide)) (by rfl) T.g_law_take T.F_law_take.kp T.b_law_take .nil pass0 (pa_cons (pv 0) (pa_cons (pe_callB call_len_str (by rfl) T.m_len (by decide +kernel) (pa_cons (pv 1) pa_nil)) pa_nil))) (fun _ _ => rfl))))
        (pss_one (ps_if (pt_cmpR op_eq (pv 2) pe_int (nomark _))
            (pss_one (ps_set (i := 3) sc_law_item.nd rfl (Or.inl rfl) pe_str))
            (pss_cons (ps_setLc (i := 4) (own := [("letter", 5)]) (g := gName 5) (by rfl) sc_law_item.nd rfl rfl (sw_true rfl rfl rfl (by decide +kernel)) (pi_str (pv 1)) (blkOk_by (own := [("letter", 5)]) (N := N_law_item) (by kernel_rfl)) (fun _ _ _ _ _ => (pg_name (i := 5) sc_law_item.nd rfl (Or.inl rfl))) (fun _ _ _ _ _ => (pts_one (pt_cmpR op_eq (pe_call G_law_take (hr.mono (by decide)) (by rfl) T.g_law_take T.F_law_take.kp T.b_law_take .nil pass0 (pa_cons (pv 0) (pa_cons pe_int pa_nil))) pe_int (nomark _)))) (fun _ _ _ _ _ => (pv 5)))
              (pss_one (ps_set (i := 3) sc_law_item.nd rfl (Or.inl rfl) (pe_op op_add_str (pe_op op_add_str pe_str (pe_m1 PySem.F.slot_str_join PySem.F.type_str_join (mt_joinK K rfl) pe_str (pe_ifExp (pt_cmpR (op_neD hr.units) (pv 4) (pe_lst pa_nil) (nomark _)) (pv 4) (pe_lst (pa_cons (pe_ix ix_str (pv 1) pe_int (fun _ _ => rfl)) pa_nil))))) pe_str)))))))
      (pss_one (ps_ret (pe_op op_add_str (pv 3) (pe_ix (ix_listK K rfl) (pe_lst (pa_cons pe_str (pa_cons pe_str (pa_cons pe_str (pa_cons pe_str pa_nil))))) (pe_call G_law_take (hr.mono (by decide)) (by rfl) T.g_law_take T.F_law_take.kp T.b_law_take .nil pass0 (pa_cons (pv 0) (pa_cons pe_int pa_nil))) (fun _ _ => rfl))))))), ?_⟩
    have h1 := hz.one
    have h5 := hz.five
    have zs : z.length ≤ sizeLine := Nat.le_trans h5 (by decide)
    refine ⟨.ref r, rfl, r, 5, k, rfl, hR, by omega, by decide, by decide, fun H1 g o1 R1 g0 g1 => ?_⟩
    refine ⟨fun σ' H' => ∃ (y : Str) (y4 : Option V), σ' = [some (.ref r), some (.str z), some (.int g), some (.str y), y4, none] ∧ Off r H H' ∧ RowAt H' r (k + 7) ∧ y.length ≤ 7, ?_, fun σ' H' hM => ?_⟩
    · refine ⟨.int g, rfl, g, 3, rfl, rfl, _, rfl, ite2 (fun e => ?_) (fun e => ?_)⟩
      · refine ⟨.str z, rfl, .ref r, rfl, .str z, rfl, z, rfl, zs, r, (z.length : Int), k + 1, rfl, R1, by omega, by omega, by omega, fun H2 m o2 R2 a0 a1 => ?_⟩
        obtain ⟨j, hj⟩ : ∃ j : Nat, m = (j : Int) := ⟨m.toNat, by omega⟩
        obtain ⟨c, hc, ec⟩ := sign_drawn (z := z) (k := j) (by omega) hj
        exact ⟨z, m, c, rfl, rfl, zs, ec, sg c, none, rfl, o1.trans o2, R2.le (by omega), by rw [sl_sg]; decide⟩
      · refine ⟨.int g, rfl, rfl, _, rfl, ite2 (fun e => ?_) (fun e => ?_)⟩
        · exact ⟨".", none, rfl, o1, R1.le (by omega), by decide⟩
        · refine ⟨.str z, rfl, z, rfl, fun D nD => ?_⟩
          have rD : r ≠ D := R1.ne nD
          have fD : H D = none := o1.free rD nD
          refine lc_it walk_str (fun i H' => ∃ cs, RowAt H' r (k + 1 + i) ∧ Off r H H' ∧ H' D = some (.lst (vs_ cs)) ∧ cs.Sublist (z.cps.toList.take i)) ⟨[], R1.new nD, o1.mut fD, upd_same, List.nil_sublist _⟩ (fun _ _ _ _ => trivial) (fun i x H2 H2' hi hW hY => ?_) (fun H2 hW => ?_)
          · obtain ⟨cs, R2, o2, e2, s2⟩ := hW
            obtain ⟨rfl, c, hc, rfl⟩ := hY
            have hi : i < z.length := hi
            have hc' : z.cps.toList[i]? = some c := by
              rw [Array.getElem?_toList]
              exact hc
            have et : z.cps.toList.take (i + 1) = z.cps.toList.take i ++ [c] := by
              rw [List.take_add_one, hc']
              rfl
            refine ⟨rfl, .ref r, rfl, r, 2, k + 1 + i, rfl, R2, by omega, by decide, by decide, fun H3 g o3 R3 _ _ => ⟨rfl, _, rfl, ite2 (fun _ => ?_) (fun _ => ?_)⟩⟩
            · refine ⟨.str (sg c), rfl, vs_ cs, o3 _ _ rD.symm e2, ?_, cs ++ [c], R3.upd rD, (o2.trans o3).mut fD, ?_, ?_⟩
              · have := s2.length_le
                have := List.length_take_le i z.cps.toList
                rw [List.length_map]
                exact small1000 (by omega)
              · rw [upd_same, vs_snoc]
              · rw [et]
                exact List.Sublist.append s2 (List.Sublist.refl _)
            · refine ⟨cs, R3, o2.trans o3, o3 _ _ rD.symm e2, ?_⟩
              rw [et]
              exact s2.trans (List.sublist_append_left _ _)
          · obtain ⟨cs, R2, o2, e2, s2⟩ := hW
            have ez : z.cps.size = z.length := rfl
            rw [List.take_of_length_le (by rw [Array.length_toList]; exact Nat.le_refl _)] at s2
            have hcs : cs.length ≤ 5 := by
              have := s2.length_le
              rw [Array.length_toList] at this
              exact Nat.le_trans this h5
            have lb : ("[" : Str).length = 1 := by decide
            have le : ("]" : Str).length = 1 := by decide
            have fin : ∀ (H3 : Hp) (ds : List Nat) (d : Addr), Off r H H3 → RowAt H3 r (k + 7) → ds.length ≤ 5 → Off r H H3 ∧ RowAt H3 r (k + 7) ∧ (("[" : Str) ++ tx ds ++ "]").length ≤ 7 := fun H3 ds d a b c => ⟨a, b, by rw [sl_app, sl_app, lb, le, tx_len']; omega⟩
            refine ⟨⟨_, rfl⟩, .ref D, rfl, by show 0 ≤ sizeLine; decide, fun p3 n3 => ?_⟩
            have f3 : H p3 = none := o2.free (R2.ne n3) n3
            have ev : vs_ cs = (cs.map sg).map V.str := by rw [List.map_map]; rfl
            have R3 := R2.new (o := .lst []) n3
            have o3 := o2.mut (o := .lst []) f3
            have e3 := (same_new (o := .lst []) n3) _ _ e2
            refine ⟨.list ((cs.map sg).map PyData.str), .list [], .lst (.inl (.inl e3)) (ev ▸ dpAll_str (cs.map sg)), .lst (.inl (.inl upd_same)) .nil, shaped_strs _ (fun x hx => ?_), shaped_strs [] (fun _ h => nomatch h), _, rfl, ?_⟩
            · obtain ⟨c, hc, rfl⟩ := List.mem_map.mp hx
              exact strOk_sg (hz.small c (s2.subset hc)).2
            have tl : ∀ ds : List Nat, ds.length ≤ 5 → ("[" : Str).length + (tx ds).length ≤ sizeLine ∧ (("[" : Str) ++ tx ds).length + ("]" : Str).length ≤ sizeLine := fun ds hd => ⟨fit2 (by rw [lb, tx_len']; omega), fit2 (by rw [sl_app, lb, le, tx_len']; omega)⟩
            have js : ∀ ds : List Nat, ds.length ≤ 5 → ((ds.map sg).map (·.length)).sum + (ds.map sg).length * (⟨#[]⟩ : Str).length ≤ 16777216 := fun ds hd => by
              rw [List.length_map, sum_sg]
              show ds.length + ds.length * 0 ≤ 16777216
              omega
            by_cases hc : cs = []
            · subst hc
              refine ⟨.str z, rfl, z, 0, z.cps.toList[0]'(by rw [Array.length_toList]; exact h1), rfl, rfl, zs, atI_nat (j := 0) (List.getElem?_eq_getElem _), by show 1 ≤ sizeLine; decide, fun p5 n5 => ?_⟩
              generalize z.cps.toList[0]'(by rw [Array.length_toList]; exact h1) = c0
              refine ⟨⟨#[]⟩, p5, [c0].map sg, rfl, rfl, .inl (.inl (.inl upd_same)), js [c0] (by show 1 ≤ 5; decide), _, _, rfl, rfl, ?_, _, _, rfl, rfl, ?_, ?_⟩
              · rw [join_sg]
                exact (tl [c0] (by show 1 ≤ 5; decide)).1
              · rw [join_sg]
                exact (tl [c0] (by show 1 ≤ 5; decide)).2
              · rw [join_sg]
                refine ⟨_, some (.ref D), rfl, fin _ [c0] p5 (o3.mut (o3.free (R3.ne n5) n5)) ((R3.new n5).le (by omega)) (by show 1 ≤ 5; decide)⟩
            · have hb : PyData.eqv (.list ((cs.map sg).map PyData.str)) (.list []) = false := by
                cases cs with
                | nil => exact absurd rfl hc
                | cons c r => rfl
              rw [hb]
              refine ⟨.ref D, rfl, ⟨#[]⟩, D, cs.map sg, rfl, rfl, .inl (.inl (.inl (by rw [List.map_map]; exact e3))), js cs hcs, _, _, rfl, rfl, ?_, _, _, rfl, rfl, ?_, ?_⟩
              · rw [join_sg]
                exact (tl cs hcs).1
              · rw [join_sg]
                exact (tl cs hcs).2
              · rw [join_sg]
                refine ⟨_, some (.ref D), rfl, fin _ cs D o3 (R3.le (by omega)) hcs⟩
    · obtain ⟨y, y4, rfl, o2, R2, ly⟩ := hM
      refine ⟨.str y, rfl, by show 4 ≤ sizeLine; decide, fun p3 n3 => ?_⟩
      refine ⟨.ref r, rfl, r, 4, k + 7, rfl, R2.new n3, by omega, by decide, by decide, fun H4 g4 o4 R4 c0 c1 => ?_⟩
      obtain ⟨t, et, lt⟩ := mark4 c0 c1
      refine ⟨p3, _, g4, .str t, rfl, rfl, .inl (.inl (o4 _ _ (R2.ne n3).symm upd_same)), et, _, _, rfl, rfl, fit2 (by omega), ?_⟩
      exact q _ _ (o2.trans ((Off.new n3).trans o4)) R4 (by rw [sl_app]; omega)
theorem ok_law_pattern (T : TX K mg) : FnOk P w K mg base CX0 3 T.a_law_pattern T.fd_law_pattern ["deck", "letters"] (sp_txt 200 50 900000) := by
  have G_law_take : FnOk P w K mg base CX0 1 T.a_law_take T.fd_law_take ["deck", "many"] sp_law_take := ok_law_take T
  have G_law_item : FnOk P w K mg base CX0 2 T.a_law_item T.fd_law_item ["deck", "letters"] (sp_txt 8 8 950000) := ok_law_item T
  refine T.F_law_pattern.ok sc_law_pattern (fun vs H Q E h => ?_) (fun cdv A outer s H vs Q E hr h => ?_)
  · obtain ⟨r, z, k, rfl, _⟩ := h
    rfl
  · obtain ⟨r, z, k, rfl, hR, hk, hz, q⟩ := h
    refine ⟨_, (pss_cons (ps_set (i := 2) sc_law_pattern.nd rfl (Or.inl rfl) (pe_lst pa_nil))
      (pss_cons (ps_for PassesOwn.never rfl (pi_range1 (by rfl) T.m_range (pa_cons (pe_op op_add pe_int (pe_callTy call_int1 (by rfl) T.m_int (by decide +kernel) (pa_cons (pe_cmpR op_eq (pe_call G_law_take (hr.mono (by decide)) (by rfl) T.g_law_take T.F_law_take.kp T.b_law_take .nil pass0 (pa_cons (pv 0) (pa_cons pe_int pa_nil))) pe_int (nomark _)) pa_nil))) pa_nil)) (pg_name (i := 3) sc_law_pattern.nd rfl (Or.inl rfl))
        (pss_cons (ps_setLc (i := 4) (own := [("j", 6)]) (g := gName 6) (tt := tYes) (by rfl) sc_law_pattern.nd rfl rfl (sw_true rfl rfl rfl (by decide +kernel)) (pi_range1 (by rfl) T.m_range (pa_cons (pe_call G_law_take (hr.mono (by decide)) (by rfl) T.g_law_take T.F_law_take.kp T.b_law_take .nil pass0 (pa_cons (pv 0) (pa_cons (pe_op op_sub pe_int (pv 3)) pa_nil))) pa_nil)) (blkOk_by (own := [("j", 6)]) (N := N_law_pattern) (by kernel_rfl)) (fun _ _ _ _ _ => (pg_name (i := 6) sc_law_pattern.nd rfl (Or.inl rfl))) (fun _ _ _ _ _ => pts_nil) (fun _ _ _ _ _ => (pe_call G_law_item (hr.mono (by decide)) (by rfl) T.g_law_item T.F_law_item.kp T.b_law_item .nil pass0 (pa_cons (pv 0) (pa_cons (pv 1) pa_nil)))))
          (pss_cons (ps_set (i := 5) sc_law_pattern.nd rfl (Or.inl rfl) (pe_op op_add_str (pe_ix ix_str (pv 1) (pe_call G_law_take (hr.mono (by decide)) (by rfl) T.g_law_take T.F_law_take.kp T.b_law_take .nil pass0 (pa_cons (pv 0) (pa_cons (pe_callB call_len_str (by rfl) T.m_len (by decide +kernel) (pa_cons (pv 1) pa_nil)) pa_nil))) (fun _ _ => rfl)) (pe_ix (ix_listK K rfl) (pe_lst (pa_cons pe_str (pa_cons pe_str pa_nil))) (pe_call G_law_take (hr.mono (by decide)) (by rfl) T.g_law_take T.F_law_take.kp T.b_law_take .nil pass0 (pa_cons (pv 0) (pa_cons pe_int pa_nil))) (fun _ _ => rfl))))
          (pss_cons (ps_expr (pe_bmK K rfl PySem.F.plainAttrs_list PySem.F.slot_list_insert PySem.F.type_list_insert mt_insert (pv 4) (pa_cons (pe_call G_law_take (hr.mono (by decide)) (by rfl) T.g_law_take T.F_law_take.kp T.b_law_take .nil pass0 (pa_cons (pv 0) (pa_cons (pe_op op_add (pe_callB (call_lenK K rfl) (by rfl) T.m_len (by decide +kernel) (pa_cons (pv 4) pa_nil)) pe_int) pa_nil))) (pa_cons (pv 5) pa_nil))))
          (pss_one (ps_expr (pe_bmK K rfl PySem.F.plainAttrs_list PySem.F.slot_list_append PySem.F.type_list_append mt_append (pv 2) (pa_cons (pe_m1 PySem.F.slot_str_join PySem.F.type_str_join (mt_joinK K rfl) pe_str (pv 4)) pa_nil))))))))
      (pss_one (ps_ret (pe_m1 PySem.F.slot_str_join PySem.F.type_str_join (mt_joinK K rfl) pe_str (pv 2)))))), ?_⟩
    have h1 := hz.one
    have h5 := hz.five
    have zs : z.length ≤ sizeLine := Nat.le_trans h5 (by decide)
    refine ⟨by show 0 ≤ sizeLine; decide, fun lb nb => ?_⟩
    have rb : lb ≠ r := (hR.ne nb).symm
    have R0 := hR.new (o := .lst []) nb
    refine ⟨.ref r, rfl, r, 4, k, rfl, R0, by omega, by decide, by decide, fun H1 g o1 R1 g0 g1 => ?_⟩
    refine ⟨rfl, .inr ⟨_, rfl, ?_⟩⟩
    obtain ⟨m, hm, m2⟩ : ∃ m : Int, m = (if decide ((V.int g) = V.int 0) = true then (1 : Int) else 0) ∧ 0 ≤ m ∧ m ≤ 1 := ⟨_, rfl, by split <;> decide, by split <;> decide⟩
    refine ⟨1, m, rfl, by rw [hm], 1 + m, rfl, by omega, by omega, ?_⟩
    have off1 : Off r H H1 := (Off.new nb).trans o1
    have eb1 : H1 lb = some (.lst (([] : List Str).map V.str)) := o1 _ _ rb upd_same
    refine for_it (walk_range (lo := 0) (n := (1 + m).toNat)) (fun i σ H' => Off r H H' ∧ RowAt H' r (k + 1 + 22 * i) ∧ ∃ (bs : List Str) (y3 y4 y5 : Option V), H' lb = some (.lst (bs.map V.str)) ∧ bs.length ≤ i ∧ (∀ y ∈ bs, y.length ≤ 30) ∧ σ = [some (.ref r), some (.str z), some (.ref lb), y3, y4, y5, none]) ⟨off1, R1, [], none, none, none, eb1, Nat.le_refl _, (fun y h => by cases h), rfl⟩ (fun _ _ _ _ _ => trivial) (fun i v σ H2 H2' hi hW hY => ?_) (fun σ H2 hW => ?_)
    · obtain ⟨o2, R2, bs, y3, y4, y5, eb2, bl, bsm, rfl⟩ := hW
      obtain ⟨rfl, rfl⟩ := hY
      have hi2 : i < 2 := by omega
      refine ⟨.ref r, rfl, .int (0 + (i : Int)), rfl, 3, 0 + (i : Int), rfl, rfl, r, 3 - (0 + (i : Int)), k + 1 + 22 * i, rfl, R2, by omega, by omega, by omega, fun H3 g3 o3 R3 a0 a1 => ?_⟩
      refine ⟨g3, rfl, by omega, by omega, fun D nD => ?_⟩
      have rD : r ≠ D := R3.ne nD
      have fD : H D = none := (o2.trans o3).free rD nD
      have bD : lb ≠ D := ne_of_none (o3 _ _ rb eb2) nD
      refine lc_it (walk_range (lo := 0) (n := g3.toNat)) (fun j H' => Off r H H' ∧ RowAt H' r (k + 1 + 22 * i + 1 + 8 * j) ∧ ∃ is : List Str, H' lb = some (.lst (bs.map V.str)) ∧ H' D = some (.lst (is.map V.str)) ∧ is.length = j ∧ ∀ y ∈ is, y.length ≤ 8) ⟨(o2.trans o3).mut fD, R3.new nD, [], (same_new nD) _ _ (o3 _ _ rb eb2), upd_same, rfl, fun y h => by cases h⟩ (fun _ _ _ _ => trivial) (fun j v H4 H4' hj hW hY => ?_) (fun H4 hW => ?_)
      · obtain ⟨o4, R4, is, eb4, ei4, il, ism⟩ := hW
        obtain ⟨rfl, rfl⟩ := hY
        have hj2 : j < 3 := by omega
        refine ⟨rfl, lcyes ?_⟩
        refine ⟨.ref r, rfl, .str z, rfl, r, z, k + 1 + 22 * i + 1 + 8 * j, rfl, R4, by omega, hz, fun H5 y o5 R5 ly => ?_⟩
        refine ⟨is.map V.str, o5 _ _ rD.symm ei4, by rw [List.length_map]; exact small1000 (by omega), (o4.trans o5).mut fD, (R5.upd rD).le (by omega), is ++ [y], by rw [upd_ne bD]; exact o5 _ _ rb eb4, ?_, by rw [List.length_append, il]; rfl, fun x hx => ?_⟩
        · rw [upd_same, List.map_append]
          rfl
        · rcases List.mem_append.mp hx with h | h
          · exact ism x h
          · rw [List.mem_singleton.mp h]
            exact ly
      · obtain ⟨o4, R4, is, eb4, ei4, il, ism⟩ := hW
        have il2 : is.length ≤ 2 := by omega
        have R4 := R4.le (show _ ≤ k + 1 + 22 * i + 1 + 16 by omega)
        refine ⟨.str z, rfl, .ref r, rfl, .str z, rfl, z, rfl, zs, r, (z.length : Int), k + 1 + 22 * i + 1 + 16, rfl, R4, by omega, by omega, by omega, fun H5 m5 o5 R5 b0 b1 => ?_⟩
        obtain ⟨j, hj⟩ : ∃ j : Nat, m5 = (j : Int) := ⟨m5.toNat, by omega⟩
        obtain ⟨c, hc, ec⟩ := sign_drawn (z := z) (k := j) (by omega) hj
        refine ⟨z, m5, c, rfl, rfl, zs, ec, by show 2 ≤ sizeLine; decide, fun p6 n6 => ?_⟩
        refine ⟨.ref r, rfl, r, 2, k + 1 + 22 * i + 1 + 16 + 1, rfl, R5.new n6, by omega, by decide, by decide, fun H7 g7 o7 R7 c0 c1 => ?_⟩
        obtain ⟨t, et, lt⟩ := mark2 c0 c1
        refine ⟨p6, _, g7, .str t, rfl, rfl, .inl (.inl (o7 _ _ (R5.ne n6).symm upd_same)), et, _, _, rfl, rfl, fit2 (by rw [sl_sg]; omega), ?_⟩
        have o47 : Off r H4 H7 := o5.trans ((Off.new n6).trans o7)
        have eb7 := o47 _ _ rb eb4
        have ei7 := o47 _ _ rD.symm ei4
        refine ⟨.ref D, rfl, .inl ⟨rfl, _, .inl (.inl ei7)⟩, .ref r, rfl, .ref D, rfl, D, _, rfl, .inl (.inl (.inl ei7)), _, 1, rfl, rfl, r, _, k + 1 + 22 * i + 1 + 16 + 1 + 1, rfl, R7, by omega, ?_, ?_, fun H8 g8 o8 R8 d0 d1 => ?_⟩
        · rw [List.length_map]
          omega
        · rw [List.length_map]
          omega
        rw [List.length_map] at d1
        refine ⟨.str (sg c ++ t), rfl, D, _, g8, .str (sg c ++ t), rfl, rfl, o8 _ _ rD.symm ei7, by rw [List.length_map]; exact small1000 (by omega), d0, by omega, ?_⟩
        have ee : (is.map V.str).take g8.toNat ++ [V.str (sg c ++ t)] ++ (is.map V.str).drop g8.toNat = (is.take g8.toNat ++ [sg c ++ t] ++ is.drop g8.toNat).map V.str := by
          rw [List.map_append, List.map_append, List.map_take, List.map_drop]
          rfl
        rw [ee]
        obtain ⟨ws, hws⟩ : ∃ ws, ws = is.take g8.toNat ++ [sg c ++ t] ++ is.drop g8.toNat := ⟨_, rfl⟩
        rw [← hws]
        have wl : ws.length ≤ 3 := by
          rw [hws, List.length_append, List.length_append, List.length_take, List.length_drop]
          show min _ _ + 1 + _ ≤ 3
          omega
        have wm : ∀ y ∈ ws, y.length ≤ 8 := fun y hy => by
          rw [hws] at hy
          rcases List.mem_append.mp hy with h | h
          · rcases List.mem_append.mp h with h | h
            · exact ism y (List.mem_of_mem_take h)
            · rw [List.mem_singleton.mp h, sl_app, sl_sg]
              omega
          · exact ism y (List.mem_of_mem_drop h)
        have o9 : Off r H (upd H8 D (.lst (ws.map V.str))) := ((o4.trans o47).trans o8).mut fD
        have R9 := R8.upd (o := .lst (ws.map V.str)) rD
        have eb9 : (upd H8 D (.lst (ws.map V.str))) lb = some (.lst (bs.map V.str)) := by
          rw [upd_ne bD]
          exact o8 _ _ rb eb7
        have ei9 : (upd H8 D (.lst (ws.map V.str))) D = some (.lst (ws.map V.str)) := upd_same
        generalize upd H8 D (.lst (ws.map V.str)) = H9 at o9 R9 eb9 ei9
        have sl0 : (⟨#[]⟩ : Str).length = 0 := rfl
        have jl := join_len (s := ⟨#[]⟩) (k := 0) (n := 8) (Nat.le_of_eq sl0) (parts := ws) wm
        refine ⟨.ref lb, rfl, .inl ⟨rfl, _, .inl (.inl eb9)⟩, ⟨_, rfl⟩, .ref D, rfl, ⟨#[]⟩, D, ws, rfl, rfl, .inl (.inl (.inl ei9)), ?_, lb, _, _, rfl, rfl, eb9, by rw [List.length_map]; exact small1000 (by omega), o9.mut ?_, (R9.upd rb.symm).le (by omega), bs ++ [Txt.join ⟨#[]⟩ ws], _, _, _, ?_, by rw [List.length_append]; show bs.length + 1 ≤ i + 1; omega, fun x hx => ?_, rfl⟩
        · have := sum_len_le wm
          rw [sl0]
          omega
        · exact nb
        · rw [upd_same, List.map_append]
          rfl
        · rcases List.mem_append.mp hx with h | h
          · exact bsm x h
          · rw [List.mem_singleton.mp h]
            omega
    · obtain ⟨o2, R2, bs, y3, y4, y5, eb2, bl, bsm, rfl⟩ := hW
      have bl2 : bs.length ≤ 2 := by omega
      have lp : ("|" : Str).length = 1 := by decide
      have jl := join_len (s := "|") (k := 1) (n := 30) (Nat.le_of_eq lp) (parts := bs) bsm
      refine ⟨⟨_, rfl⟩, .ref lb, rfl, "|", lb, bs, rfl, rfl, .inl (.inl (.inl eb2)), ?_, ?_⟩
      · have := sum_len_le bsm
        rw [lp]
        omega
      · exact q _ _ o2 (R2.le (by omega)) (by omega)
end
end LH

namespace LH
open PySem PySem.Spec PyProof.Rows L2
theorem cut_hb (cs : List Nat) (i : Nat) : cutS (tx cs) (some (i : Int)) none = tx (cs.drop i) := by
  have := cut_from cs i
  unfold cutS
  rw [tx_len]
  exact congrArg tx this
theorem at_last {z : Str} (h : 1 ≤ z.length) : ∃ c, c ∈ z.cps.toList ∧ atI z.cps.toList (-1) = some c := by
  have hl : z.cps.toList.length = z.length := Array.length_toList
  have lt : z.cps.toList.length - 1 < z.cps.toList.length := by omega
  refine ⟨z.cps.toList[z.cps.toList.length - 1], List.getElem_mem lt, ?_⟩
  unfold atI ixN
  rw [if_neg (by decide), if_pos (by omega)]
  show z.cps.toList[_]? = _
  rw [show (-1 + ((z.cps.toList.length : Nat) : Int)).toNat = z.cps.toList.length - 1 by omega, List.getElem?_eq_getElem lt]
section
variable {P : Program} {w : World} {K : PySem.W.Frag} {mg : Str → Option Value} {base : Heap}
theorem where_at {sh : Str} {m g : Int} (hm : m = if sh = "row" then 3 else 1) (h0 : 0 ≤ g) (h1 : g < m) : ∃ x : Str, atI [V.str "others", V.str "left", V.str "right"] g = some (.str x) ∧ (x = "left" ∨ x = "right" ∨ x = "others") ∧ (sh = "ring" → x = "others") := by
  by_cases hs : sh = "row"
  · rw [if_pos hs] at hm
    have nr : ¬ sh = "ring" := by rw [hs]; decide
    have : g = 0 ∨ g = 1 ∨ g = 2 := by omega
    rcases this with rfl | rfl | rfl
    · exact ⟨_, rfl, .inr (.inr rfl), fun _ => rfl⟩
    · exact ⟨_, rfl, .inl rfl, fun h => absurd h nr⟩
    · exact ⟨_, rfl, .inr (.inl rfl), fun h => absurd h nr⟩
  · rw [if_neg hs] at hm
    obtain rfl : g = 0 := by omega
    exact ⟨_, rfl, .inr (.inr rfl), fun _ => rfl⟩
def sp_law_rule : Sp := fun vs H Q _ => ∃ (r : Addr) (z sh : Str) (k : Nat), vs = [.ref r, .str z, .str sh] ∧ RowAt H r k ∧ k ≤ 900000 ∧ IsLet z ∧ ∀ H' p R, Off r H H' → RowAt H' r (k + 20) → RulAt H' p R → R.Ok z sh → Q (.ref p) H'
theorem ok_law_rule (T : TX K mg) : FnOk P w K mg base CX0 2 T.a_law_rule T.fd_law_rule ["deck", "letters", "shape"] sp_law_rule := by
  have G_law_take : FnOk P w K mg base CX0 1 T.a_law_take T.fd_law_take ["deck", "many"] sp_law_take := ok_law_take T
  refine T.F_law_rule.ok sc_law_rule (fun vs H Q E h => ?_) (fun cdv A outer s H vs Q E hr h => ?_)
  · obtain ⟨r, z, sh, k, rfl, _⟩ := h
    rfl
  · obtain ⟨r, z, sh, k, rfl, hR, hk, hz, q⟩ := h
    refine ⟨_, (pss_cons (ps_set (i := 3) sc_law_rule.nd rfl (Or.inl rfl) (pe_call G_law_take (hr.mono (by decide)) (by rfl) T.g_law_take T.F_law_take.kp T.b_law_take .nil pass0 (pa_cons (pv 0) (pa_cons pe_int pa_nil))))
      (pss_cons (ps_setLc (i := 4) (own := [("k", 9)]) (g := gName 9) (tt := tYes) (by rfl) sc_law_rule.nd rfl rfl (sw_true rfl rfl rfl (by decide +kernel)) (pi_range1 (by rfl) T.m_range (pa_cons pe_int pa_nil)) (blkOk_by (own := [("k", 9)]) (N := N_law_rule) (by kernel_rfl)) (fun _ _ _ _ _ => (pg_name (i := 9) sc_law_rule.nd rfl (Or.inl rfl))) (fun _ _ _ _ _ => pts_nil) (fun _ _ _ _ _ => (pe_ix ix_str (pv 1) (pe_call G_law_take (hr.mono (by decide)) (by rfl) T.g_law_take T.F_law_take.kp T.b_law_take .nil pass0 (pa_cons (pv 0) (pa_cons (pe_callB call_len_str (by rfl) T.m_len (by decide +kernel) (pa_cons (pv 1) pa_nil)) pa_nil))) (fun _ _ => rfl))))
      (pss_cons (ps_if (pt_cmpR op_eq (pv 3) pe_int (nomark _))
        (pss_one (ps_ret (pe_tup (pa_cons pe_str (pa_cons (pe_ix (ix_listK K rfl) (pv 4) pe_int (fun _ _ => rfl)) (pa_cons (pe_ix (ix_listK K rfl) (pv 4) pe_int (fun _ _ => rfl)) (pa_cons (pe_ix (ix_listK K rfl) (pv 4) pe_int (fun _ _ => rfl)) (pa_cons (pe_ix (ix_listK K rfl) (pv 4) pe_int (fun _ _ => rfl)) pa_nil))))))))
        pss_nil)
      (pss_cons (ps_if (pt_cmpR op_eq (pv 3) pe_int (nomark _))
        (pss_cons (ps_set (i := 5) sc_law_rule.nd rfl (Or.inl rfl) (pe_m1 PySem.F.slot_str_join PySem.F.type_str_join (mt_joinK K rfl) pe_str (pe_lc (own := [("letter", 10)]) (g := gName 10) (tt := tYes) (by rfl) sc_law_rule.nd (pi_str (pv 1)) (blkOk_by (own := [("letter", 10)]) (N := N_law_rule) (by kernel_rfl)) (fun _ _ _ _ _ => (pg_name (i := 10) sc_law_rule.nd rfl (Or.inl rfl))) (fun _ _ _ _ _ => pts_nil) (fun _ _ _ _ _ => (pe_ix ix_str (pv 1) (pe_call G_law_take (hr.mono (by decide)) (by rfl) T.g_law_take T.F_law_take.kp T.b_law_take .nil pass0 (pa_cons (pv 0) (pa_cons (pe_callB call_len_str (by rfl) T.m_len (by decide +kernel) (pa_cons (pv 1) pa_nil)) pa_nil))) (fun _ _ => rfl))))))
          (pss_one (ps_ret (pe_tup (pa_cons pe_str (pa_cons (pe_ix (ix_listK K rfl) (pv 4) pe_int (fun _ _ => rfl)) (pa_cons (pe_ix (ix_listK K rfl) (pv 4) pe_int (fun _ _ => rfl)) (pa_cons (pv 5) pa_nil))))))))
        pss_nil)
      (pss_cons (ps_set (i := 6) sc_law_rule.nd rfl (Or.inl rfl) pe_non)
      (C8.pss_cut (ps_if (pt_cmpR op_gt (pv 3) pe_int (nomark _))
        (pss_cons (ps_set (i := 7) sc_law_rule.nd rfl (Or.inl rfl) (pe_ix (ix_listK K rfl) (pe_lst (pa_cons pe_str (pa_cons pe_str (pa_cons pe_str pa_nil)))) (pe_call G_law_take (hr.mono (by decide)) (by rfl) T.g_law_take T.F_law_take.kp T.b_law_take .nil pass0 (pa_cons (pv 0) (pa_cons (pe_ix (ix_listK K rfl) (pe_lst (pa_cons pe_int (pa_cons pe_int pa_nil))) (pe_callTy call_int1 (by rfl) T.m_int (by decide +kernel) (pa_cons (pe_cmpR op_eq (pv 2) pe_str (nomark _)) pa_nil)) (fun _ _ => rfl)) pa_nil))) (fun _ _ => rfl)))
          (pss_cons (ps_setLc (i := 8) (own := [("letter", 10)]) (g := gName 10) (by rfl) sc_law_rule.nd rfl rfl (sw_true rfl rfl rfl (by decide +kernel)) (pi_str (pv 1)) (blkOk_by (own := [("letter", 10)]) (N := N_law_rule) (by kernel_rfl)) (fun _ _ _ _ _ => (pg_name (i := 10) sc_law_rule.nd rfl (Or.inl rfl))) (fun _ _ _ _ _ => (pts_one (pt_cmpR op_eq (pe_call G_law_take (hr.mono (by decide)) (by rfl) T.g_law_take T.F_law_take.kp T.b_law_take .nil pass0 (pa_cons (pv 0) (pa_cons pe_int pa_nil))) pe_int (nomark _)))) (fun _ _ _ _ _ => (pv 10)))
          (C8.pss_cut (ps_if (pt_cmpR (op_eqD hr.units) (pv 8) (pe_lst pa_nil) (nomark _))
            (pss_one (ps_set (i := 8) sc_law_rule.nd rfl (Or.inl rfl) (pe_lst (pa_cons (pe_ix ix_str (pv 1) (pe_un un_neg pe_int) (fun _ _ => rfl)) pa_nil))))
            pss_nil)
          (pss_one (ps_set (i := 6) sc_law_rule.nd rfl (Or.inl rfl) (pe_tup (pa_cons (pe_ix (ix_listK K rfl) (pe_lst (pa_cons pe_str (pa_cons pe_str pa_nil))) (pe_call G_law_take (hr.mono (by decide)) (by rfl) T.g_law_take T.F_law_take.kp T.b_law_take .nil pass0 (pa_cons (pv 0) (pa_cons pe_int pa_nil))) (fun _ _ => rfl)) (pa_cons (pv 7) (pa_cons (pe_m1 PySem.F.slot_str_join PySem.F.type_str_join (mt_joinK K rfl) pe_str (pv 8)) pa_nil)))))))))
        pss_nil)
      (pss_one (ps_ret (pe_tup (pa_cons pe_str (pa_cons (pe_ix (ix_listK K rfl) (pv 4) pe_int (fun _ _ => rfl)) (pa_cons (pe_ix (ix_listK K rfl) (pv 4) pe_int (fun _ _ => rfl)) (pa_cons (pv 6) pa_nil))))))))))))), ?_⟩
    have h1 := hz.one
    have h5 := hz.five
    have zs : z.length ≤ sizeLine := Nat.le_trans h5 (by decide)
    refine ⟨.ref r, rfl, r, 5, k, rfl, hR, by omega, by decide, by decide, fun H1 kd o1 R1 _ _ => ?_⟩
    refine ⟨4, rfl, by decide, by decide, fun D nD => ?_⟩
    have rD : r ≠ D := R1.ne nD
    have fD : H D = none := o1.free rD nD
    refine lc_it (walk_range (lo := 0) (n := (4 : Int).toNat)) (fun i H' => ∃ cs, RowAt H' r (k + 1 + i) ∧ Off r H H' ∧ H' D = some (.lst (vs_ cs)) ∧ cs.length = i ∧ ∀ c ∈ cs, c ∈ z.cps.toList) ⟨[], R1.new nD, o1.mut fD, upd_same, rfl, fun _ h => nomatch h⟩ (fun _ _ _ _ => trivial) (fun i v H2 H2' hi hW hY => ?_) (fun H2 hW => ?_)
    · obtain ⟨cs, R2, o2, e2, l2, c2⟩ := hW
      obtain ⟨rfl, rfl⟩ := hY
      have hi : i < 4 := hi
      refine ⟨rfl, lcyes ?_⟩
      refine ⟨.str z, rfl, .ref r, rfl, .str z, rfl, z, rfl, zs, r, (z.length : Int), k + 1 + i, rfl, R2, by omega, by omega, by omega, fun H3 m o3 R3 a0 a1 => ?_⟩
      obtain ⟨j, hj⟩ : ∃ j : Nat, m = (j : Int) := ⟨m.toNat, by omega⟩
      obtain ⟨c, hc, ec⟩ := sign_drawn (z := z) (k := j) (by omega) hj
      refine ⟨z, m, c, rfl, rfl, zs, ec, vs_ cs, o3 _ _ rD.symm e2, by rw [List.length_map, l2]; exact small1000 (by omega), cs ++ [c], R3.upd rD, (o2.trans o3).mut fD, ?_, ?_, mem_snoc c2 hc⟩
      · rw [upd_same, vs_snoc]
      · rw [List.length_append, l2]
        rfl
    · obtain ⟨cs, R2, o2, e2, l2, c2⟩ := hW
      have l2 : cs.length = 4 := l2
      have R2 : RowAt H2 r (k + 5) := R2
      obtain ⟨x, y, u, v, rfl⟩ : ∃ x y u v, cs = [x, y, u, v] := by
        match cs, l2 with
        | [x, y, u, v], _ => exact ⟨x, y, u, v, rfl⟩
      have hx := c2 x (by simp)
      have hy := c2 y (by simp)
      have hu := c2 u (by simp)
      have hv := c2 v (by simp)
      have ix : ∀ {H' : Hp} (j : Nat) (c : Nat), H' D = some (.lst (vs_ [x, y, u, v])) → [x, y, u, v][j]? = some c → SqL K H' D (vs_ [x, y, u, v]) ∧ atI (vs_ [x, y, u, v]) (j : Int) = some (.str (sg c)) := fun {H'} j c e h => ⟨.inl (.inl e), atI_nat (by rw [List.getElem?_map, h]; rfl)⟩
      refine ⟨.int kd, rfl, rfl, _, rfl, ite2 (fun e0 => ?_) (fun e0 => ?_)⟩
      · refine ⟨.ref D, rfl, D, _, 0, .str (sg x), rfl, rfl, (ix 0 x e2 rfl).1, (ix 0 x e2 rfl).2, .ref D, rfl, D, _, 1, .str (sg y), rfl, rfl, (ix 1 y e2 rfl).1, (ix 1 y e2 rfl).2, .ref D, rfl, D, _, 2, .str (sg u), rfl, rfl, (ix 2 u e2 rfl).1, (ix 2 u e2 rfl).2, .ref D, rfl, D, _, 3, .str (sg v), rfl, rfl, (ix 3 v e2 rfl).1, (ix 3 v e2 rfl).2, by show 5 ≤ sizeLine; decide, fun p np => ?_⟩
        exact q _ p (.two x y u v) (o2.mut (o2.free (R2.ne np) np)) ((R2.new np).le (by omega)) upd_same ⟨hx, hy, hu, hv⟩
      refine ⟨.int kd, rfl, rfl, _, rfl, ite2 (fun e1 => ?_) (fun e1 => ?_)⟩
      · refine ⟨⟨_, rfl⟩, .str z, rfl, z, rfl, fun D2 nD2 => ?_⟩
        have rD2 : r ≠ D2 := R2.ne nD2
        have fD2 : H D2 = none := o2.free rD2 nD2
        have DD : D ≠ D2 := ne_of_none e2 nD2
        refine lc_it walk_str (fun i H' => ∃ cs, RowAt H' r (k + 5 + i) ∧ Off r H H' ∧ H' D = some (.lst (vs_ [x, y, u, v])) ∧ H' D2 = some (.lst (vs_ cs)) ∧ cs.length = i ∧ ∀ c ∈ cs, c ∈ z.cps.toList) ⟨[], R2.new nD2, o2.mut fD2, (same_new nD2) _ _ e2, upd_same, rfl, fun _ h => nomatch h⟩ (fun _ _ _ _ => trivial) (fun i v H3 H3' hi hW hY => ?_) (fun H3 hW => ?_)
        · obtain ⟨cs, R3, o3, d3, e3, l3, c3⟩ := hW
          obtain ⟨rfl, c, hc, rfl⟩ := hY
          have hi : i < z.length := hi
          refine ⟨rfl, lcyes ?_⟩
          refine ⟨.str z, rfl, .ref r, rfl, .str z, rfl, z, rfl, zs, r, (z.length : Int), k + 5 + i, rfl, R3, by omega, by omega, by omega, fun H4 m o4 R4 a0 a1 => ?_⟩
          obtain ⟨j, hj⟩ : ∃ j : Nat, m = (j : Int) := ⟨m.toNat, by omega⟩
          obtain ⟨c, hc, ec⟩ := sign_drawn (z := z) (k := j) (by omega) hj
          refine ⟨z, m, c, rfl, rfl, zs, ec, vs_ cs, o4 _ _ rD2.symm e3, by rw [List.length_map, l3]; exact small1000 (by omega), cs ++ [c], R4.upd rD2, (o3.trans o4).mut fD2, by rw [upd_ne DD]; exact o4 _ _ rD.symm d3, ?_, ?_, mem_snoc c3 hc⟩
          · rw [upd_same, vs_snoc]
          · rw [List.length_append, l3]
            rfl
        · obtain ⟨cs, R3, o3, d3, e3, l3, c3⟩ := hW
          have l3 : cs.length = z.length := l3
          have R3 : RowAt H3 r (k + 5 + z.length) := R3
          refine ⟨⟨#[]⟩, D2, cs.map sg, rfl, rfl, .inl (.inl (.inl (by rw [List.map_map]; exact e3))), ?_, ?_⟩
          · rw [List.length_map, sum_sg]
            show cs.length + cs.length * 0 ≤ 16777216
            omega
          rw [join_sg]
          refine ⟨.ref D, rfl, D, _, 0, .str (sg x), rfl, rfl, (ix 0 x d3 rfl).1, (ix 0 x d3 rfl).2, .ref D, rfl, D, _, 1, .str (sg y), rfl, rfl, (ix 1 y d3 rfl).1, (ix 1 y d3 rfl).2, .str (tx cs), rfl, by show 4 ≤ sizeLine; decide, fun p np => ?_⟩
          exact q _ p (.call x y cs) (o3.mut (o3.free (R3.ne np) np)) ((R3.new np).le (by omega)) upd_same ⟨hx, hy, l3, c3⟩
      · refine ⟨fun σ' H' => ∃ (gv : V) (gg : Option Grd) (y7 y8 : Option V), σ' = [some (.ref r), some (.str z), some (.str sh), some (.int kd), some (.ref D), none, some gv, y7, y8, none, none] ∧ Off r H H' ∧ RowAt H' r (k + 19) ∧ H' D = some (.lst (vs_ [x, y, u, v])) ∧ GrdAt H' gv gg ∧ ∀ G, gg = some G → G.Ok z sh, ?_, fun σ' H' hM => ?_⟩
        · refine ⟨.int kd, rfl, kd, 2, rfl, rfl, _, rfl, ite2 (fun e2' => ?_) (fun e2' => ?_)⟩
          · refine ⟨by show 3 ≤ sizeLine; decide, fun p3 n3 => ?_⟩
            have f3 : H p3 = none := o2.free (R2.ne n3) n3
            refine ⟨.ref r, rfl, by show 2 ≤ sizeLine; decide, fun p4 n4 => ?_⟩
            have R4 := (R2.new (o := .lst [.str "others", .str "left", .str "right"]) n3).new (o := .lst [.int 1, .int 3]) n4
            have o4 : Off r H (upd (upd H2 p3 (.lst [.str "others", .str "left", .str "right"])) p4 (.lst [.int 1, .int 3])) := (o2.trans (Off.new n3)).trans (Off.new n4)
            have d4 := ((same_new (o := .lst [.str "others", .str "left", .str "right"]) n3).trans (same_new (o := .lst [.int 1, .int 3]) n4)) _ _ e2
            have e34 := (same_new (o := .lst [.int 1, .int 3]) n4) p3 _ (upd_same (H := H2) (o := .lst [.str "others", .str "left", .str "right"]))
            have e44 : (upd (upd H2 p3 (.lst [.str "others", .str "left", .str "right"])) p4 (.lst [.int 1, .int 3])) p4 = some (.lst [.int 1, .int 3]) := upd_same
            have r3 : p3 ≠ r := (R2.ne n3).symm
            generalize upd (upd H2 p3 (.lst [.str "others", .str "left", .str "right"])) p4 (.lst [.int 1, .int 3]) = H4 at R4 o4 d4 e34 e44
            refine ⟨.str sh, rfl, rfl, .inr ⟨_, rfl, ?_⟩⟩
            rw [str_eq]
            obtain ⟨m, hm, ei⟩ : ∃ m : Int, m = (if sh = "row" then 3 else 1) ∧ atI [V.int 1, V.int 3] (if decide (sh = "row") = true then 1 else 0) = some (.int m) := by
              by_cases hs : sh = "row"
              · rw [if_pos hs, decide_eq_true hs]
                exact ⟨3, rfl, rfl⟩
              · rw [if_neg hs, decide_eq_false hs]
                exact ⟨1, rfl, rfl⟩
            have m3 : 0 < m ∧ m ≤ 3 := by
              rw [hm]
              split <;> decide
            refine ⟨p4, _, _, .int m, rfl, rfl, .inl (.inl e44), ei, r, m, k + 5, rfl, R4, by omega, m3.1, by omega, fun H5 g5 o5 R5 b0 b1 => ?_⟩
            obtain ⟨wh, ew, hw, hring⟩ := where_at hm b0 b1
            refine ⟨p3, _, g5, .str wh, rfl, rfl, .inl (.inl (o5 _ _ r3 e34)), ew, ?_⟩
            have o5' := o4.trans o5
            have d5 := o5 _ _ rD.symm d4
            -- those that are seen
            refine ⟨.str z, rfl, z, rfl, fun D2 nD2 => ?_⟩
            have rD2 : r ≠ D2 := R5.ne nD2
            have fD2 : H D2 = none := o5'.free rD2 nD2
            have DD : D ≠ D2 := ne_of_none d5 nD2
            refine lc_it walk_str (fun i H' => ∃ cs, RowAt H' r (k + 6 + i) ∧ Off r H H' ∧ H' D = some (.lst (vs_ [x, y, u, v])) ∧ H' D2 = some (.lst (vs_ cs)) ∧ cs.Sublist (z.cps.toList.take i)) ⟨[], R5.new nD2, o5'.mut fD2, (same_new nD2) _ _ d5, upd_same, List.nil_sublist _⟩ (fun _ _ _ _ => trivial) (fun i xx H6 H6' hi hW hY => ?_) (fun H6 hW => ?_)
            · obtain ⟨cs, R6, o6, d6, e6, s6⟩ := hW
              obtain ⟨rfl, c, hc, rfl⟩ := hY
              have hi : i < z.length := hi
              have hc' : z.cps.toList[i]? = some c := by
                rw [Array.getElem?_toList]
                exact hc
              have et : z.cps.toList.take (i + 1) = z.cps.toList.take i ++ [c] := by
                rw [List.take_add_one, hc']
                rfl
              refine ⟨rfl, .ref r, rfl, r, 2, k + 6 + i, rfl, R6, by omega, by decide, by decide, fun H7 g7 o7 R7 _ _ => ⟨rfl, _, rfl, ite2 (fun _ => ?_) (fun _ => ?_)⟩⟩
              · refine ⟨.str (sg c), rfl, vs_ cs, o7 _ _ rD2.symm e6, ?_, cs ++ [c], R7.upd rD2, (o6.trans o7).mut fD2, by rw [upd_ne DD]; exact o7 _ _ rD.symm d6, ?_, ?_⟩
                · have := s6.length_le
                  have := List.length_take_le i z.cps.toList
                  rw [List.length_map]
                  exact small1000 (by omega)
                · rw [upd_same, vs_snoc]
                · rw [et]
                  exact List.Sublist.append s6 (List.Sublist.refl _)
              · refine ⟨cs, R7, o6.trans o7, o7 _ _ rD.symm d6, o7 _ _ rD2.symm e6, ?_⟩
                rw [et]
                exact s6.trans (List.sublist_append_left _ _)
            · obtain ⟨cs, R6, o6, d6, e6, s6⟩ := hW
              have R6 : RowAt H6 r (k + 6 + z.length) := R6
              rw [List.take_of_length_le (by rw [Array.length_toList]; exact Nat.le_refl _)] at s6
              have hcs : cs.length ≤ 5 := by
                have := s6.length_le
                rw [Array.length_toList] at this
                exact Nat.le_trans this h5
              refine ⟨fun σ' H' => ∃ d ds, σ' = [some (.ref r), some (.str z), some (.str sh), some (.int kd), some (.ref D), none, some .non, some (.str wh), some (.ref d), none, none] ∧ RowAt H' r (k + 6 + z.length) ∧ Off r H H' ∧ H' D = some (.lst (vs_ [x, y, u, v])) ∧ H' d = some (.lst (vs_ ds)) ∧ (∀ c ∈ ds, c ∈ z.cps.toList) ∧ 1 ≤ ds.length ∧ ds.length ≤ 5, ?_, fun σ' H' hM => ?_⟩
              · refine ⟨.ref D2, rfl, by show 0 ≤ sizeLine; decide, fun p7 n7 => ?_⟩
                have f7 : H p7 = none := o6.free (R6.ne n7) n7
                have ev : vs_ cs = (cs.map sg).map V.str := by rw [List.map_map]; rfl
                refine ⟨.list ((cs.map sg).map PyData.str), .list [], .lst (.inl (.inl ((same_new n7) _ _ e6))) (ev ▸ dpAll_str (cs.map sg)), .lst (.inl (.inl upd_same)) .nil, shaped_strs _ (fun x hx => ?_), shaped_strs [] (fun _ h => nomatch h), _, rfl, ite2 (fun e => ?_) (fun e => ?_)⟩
                · obtain ⟨c, hc, rfl⟩ := List.mem_map.mp hx
                  exact strOk_sg (hz.small c (s6.subset hc)).2
                · obtain ⟨c, hc, ec⟩ := at_last h1
                  refine ⟨.str z, rfl, 1, rfl, z, -1, c, rfl, rfl, zs, ec, by show 1 ≤ sizeLine; decide, fun p8 n8 => ?_⟩
                  have R7 := R6.new (o := .lst []) n7
                  have o7 := o6.mut (o := .lst []) f7
                  exact ⟨p8, [c], rfl, R7.new n8, o7.mut (o7.free (R7.ne n8) n8), (same_new n8) _ _ ((same_new n7) _ _ d6), upd_same, fun d hd => by rw [List.mem_singleton.mp hd]; exact hc, Nat.le_refl 1, by show 1 ≤ 5; decide⟩
                · refine ⟨D2, cs, rfl, R6.new n7, o6.mut f7, (same_new n7) _ _ d6, (same_new n7) _ _ e6, fun c hc => s6.subset hc, ?_, hcs⟩
                  cases cs with
                  | nil => exact absurd (show PyData.eqv (.list []) (.list []) = true by rfl) e
                  | cons c r => exact Nat.succ_le_succ (Nat.zero_le _)
              · obtain ⟨d, ds, rfl, R7, o7, d7, e7, s7, l7, l8⟩ := hM
                refine ⟨by show 2 ≤ sizeLine; decide, fun p8 n8 => ?_⟩
                refine ⟨.ref r, rfl, r, 2, k + 6 + z.length, rfl, R7.new n8, by omega, by decide, by decide, fun H9 g9 o9 R9 c0 c1 => ?_⟩
                obtain ⟨how, eh, hh⟩ := two_at (a := "all") (b := "some") c0 c1
                have o79 : Off r H' H9 := (Off.new n8).trans o9
                have rd : d ≠ r := fun z => by
                  obtain ⟨a, b, c, e, _⟩ := R7
                  rw [z, e] at e7
                  have := congrArg (fun o => match o with | some (HO.lst xs) => xs[0]? | _ => none) e7
                  match ds, l7, this with
                  | c :: cs, _, h => cases h
                refine ⟨p8, _, g9, .str how, rfl, rfl, .inl (.inl (o9 _ _ (R7.ne n8).symm upd_same)), eh, .str wh, rfl, ⟨_, rfl⟩, .ref d, rfl, ⟨#[]⟩, d, ds.map sg, rfl, rfl, .inl (.inl (.inl (by rw [List.map_map]; exact o79 _ _ rd e7))), ?_, ?_⟩
                · rw [List.length_map, sum_sg]
                  show ds.length + ds.length * 0 ≤ 16777216
                  omega
                rw [join_sg]
                refine ⟨by show 3 ≤ sizeLine; decide, fun gp ngp => ?_⟩
                have o9' := o7.trans o79
                refine ⟨.ref gp, some ⟨how, wh, ds⟩, _, _, rfl, o9'.mut (o9'.free (R9.ne ngp) ngp), (R9.new ngp).le (by omega), (same_new ngp) _ _ (o79 _ _ rD.symm d7), ⟨gp, rfl, upd_same⟩, fun G e => ?_⟩
                cases e
                exact ⟨hh, hw, hring, s7, l7, by show ds.length ≤ 100; omega⟩
          · exact ⟨.non, none, none, none, rfl, o2, R2.le (by omega), e2, rfl, fun _ h => nomatch h⟩
        · obtain ⟨gv, gg, y7, y8, rfl, o3, R3, d3, hg, hgg⟩ := hM
          refine ⟨.ref D, rfl, D, _, 0, .str (sg x), rfl, rfl, (ix 0 x d3 rfl).1, (ix 0 x d3 rfl).2, .ref D, rfl, D, _, 1, .str (sg y), rfl, rfl, (ix 1 y d3 rfl).1, (ix 1 y d3 rfl).2, gv, rfl, by show 4 ≤ sizeLine; decide, fun p np => ?_⟩
          exact q _ p (.one x y gg) (o3.mut (o3.free (R3.ne np) np)) ((R3.new np).le (by omega)) ⟨gv, upd_same, hg.mono (Tups.new np)⟩ ⟨hx, hy, hgg⟩
end
end LH

namespace LH
open PySem PySem.Spec PyProof.Rows L2
abbrev az : Str := "abcdefghijklmnopqrstuvwxyz"
theorem az_step {a b : Int} (a0 : 0 ≤ a) (a1 : a < 3) (b0 : 0 ≤ b) (b1 : b < 5) : (stepS az a (1 + b)).cps.toList.Pairwise (· < ·) ∧ (∀ c ∈ (stepS az a (1 + b)).cps.toList, 97 ≤ c ∧ c ≤ 122) ∧ 5 ≤ (stepS az a (1 + b)).length ∧ (stepS az a (1 + b)).length ≤ 26 ∧ ((1 + b) = 1 → (Builtin.Str.strSliceIndices (some a) none (1 + b) az.length).length = az.length → stepS az a (1 + b) = az) := by
  have ha : a = 0 ∨ a = 1 ∨ a = 2 := by omega
  have hb : b = 0 ∨ b = 1 ∨ b = 2 ∨ b = 3 ∨ b = 4 := by omega
  rcases ha with rfl | rfl | rfl <;> rcases hb with rfl | rfl | rfl | rfl | rfl <;> exact ⟨by decide +kernel, by decide +kernel, by decide +kernel, by decide +kernel, by decide +kernel⟩
theorem tx_of (z : Str) : z = tx z.cps.toList := by
  obtain ⟨⟨l⟩⟩ := z
  rfl
theorem let_cut {z : Str} (hp : z.cps.toList.Pairwise (· < ·)) (hs : ∀ c ∈ z.cps.toList, 97 ≤ c ∧ c ≤ 122) {x many : Nat} (h1 : 1 ≤ many) (h5 : many ≤ 5) (hx : x + many ≤ z.length) : IsLet (tx ((z.cps.toList.drop x).take many)) := by
  have hl : z.cps.toList.length = z.length := Array.length_toList
  have ln : ((z.cps.toList.drop x).take many).length = many := by
    rw [List.length_take, List.length_drop, hl]
    omega
  have sb : ((z.cps.toList.drop x).take many).Sublist z.cps.toList := (List.take_sublist _ _).trans (List.drop_sublist _ _)
  exact ⟨by rw [tx_len, ln]; exact h1, by rw [tx_len, ln]; exact h5, hp.sublist sb, fun c hc => hs c (sb.subset hc)⟩
structure WdK (W : Wd) : Prop where
  let_ : IsLet W.z
  sh : W.sh = "row" ∨ W.sh = "ring"
  many : 1 ≤ W.rs.length ∧ W.rs.length ≤ 8
  rs : ∀ R ∈ W.rs, R.Ok W.z W.sh
theorem many_at {g : Int} (h0 : 0 ≤ g) (h1 : g < 6) : ∃ m : Nat, atI [V.int 2, V.int 3, V.int 3, V.int 1, V.int 4, V.int 5] g = some (.int (m : Int)) ∧ 1 ≤ m ∧ m ≤ 5 := by
  have : g = 0 ∨ g = 1 ∨ g = 2 ∨ g = 3 ∨ g = 4 ∨ g = 5 := by omega
  rcases this with rfl | rfl | rfl | rfl | rfl | rfl
  · exact ⟨2, rfl, by decide, by decide⟩
  · exact ⟨3, rfl, by decide, by decide⟩
  · exact ⟨3, rfl, by decide, by decide⟩
  · exact ⟨1, rfl, by decide, by decide⟩
  · exact ⟨4, rfl, by decide, by decide⟩
  · exact ⟨5, rfl, by decide, by decide⟩
section
variable {P : Program} {w : World} {K : PySem.W.Frag} {mg : Str → Option Value} {base : Heap}
def sp_law_world : Sp := fun vs H Q _ => ∃ (r : Addr) (k : Nat), vs = [.ref r, .int 5, .int 8] ∧ RowAt H r k ∧ k ≤ 1000 ∧ ∀ H' a W, Off r H H' → WdAt H' a W → WdK W → Q (.ref a) H'
theorem ok_law_world (T : TX K mg) : FnOk P w K mg base CX0 4 T.a_law_world T.fd_law_world ["deck", "most", "rules"] sp_law_world := by
  have G_law_take : FnOk P w K mg base CX0 1 T.a_law_take T.fd_law_take ["deck", "many"] sp_law_take := ok_law_take T
  have G_law_rule : FnOk P w K mg base CX0 2 T.a_law_rule T.fd_law_rule ["deck", "letters", "shape"] sp_law_rule := ok_law_rule T
  have G_law_pattern : FnOk P w K mg base CX0 3 T.a_law_pattern T.fd_law_pattern ["deck", "letters"] (sp_txt 200 50 900000) := ok_law_pattern T
  refine T.F_law_world.ok sc_law_world (fun vs H Q E h => ?_) (fun cdv A outer s H vs Q E hr h => ?_)
  · obtain ⟨r, k, rfl, _⟩ := h
    rfl
  · obtain ⟨r, k, rfl, hR, hk, q⟩ := h
    refine ⟨_, (pss_cons (ps_set (i := 3) sc_law_world.nd rfl (Or.inl rfl) (pe_ix (ix_listK K rfl) (pe_lst (pa_cons pe_int (pa_cons pe_int (pa_cons pe_int (pa_cons pe_int (pa_cons pe_int (pa_cons pe_int pa_nil))))))) (pe_call G_law_take (hr.mono (by decide)) (by rfl) T.g_law_take T.F_law_take.kp T.b_law_take .nil pass0 (pa_cons (pv 0) (pa_cons (pe_ix (ix_listK K rfl) (pe_lst (pa_cons pe_int (pa_cons pe_int (pa_cons pe_int pa_nil)))) (pe_op op_sub (pv 1) pe_int) (fun _ _ => rfl)) pa_nil))) (fun _ _ => rfl)))
      (pss_cons (ps_set (i := 4) sc_law_world.nd rfl (Or.inr rfl) (pe_stepS pe_str (po_some (pe_call G_law_take (hr.mono (by decide)) (by rfl) T.g_law_take T.F_law_take.kp T.b_law_take .nil pass0 (pa_cons (pv 0) (pa_cons pe_int pa_nil)))) (po_some (pe_op op_add pe_int (pe_call G_law_take (hr.mono (by decide)) (by rfl) T.g_law_take T.F_law_take.kp T.b_law_take .nil pass0 (pa_cons (pv 0) (pa_cons pe_int pa_nil)))))))
      (pss_cons (ps_set (i := 4) sc_law_world.nd rfl (Or.inr rfl) (pe_slice sl_str (pe_slice sl_str (pv 4) (po_some (pe_call G_law_take (hr.mono (by decide)) (by rfl) T.g_law_take T.F_law_take.kp T.b_law_take .nil pass0 (pa_cons (pv 0) (pa_cons (pe_op op_add (pe_op op_sub (pe_callB call_len_str (by rfl) T.m_len (by decide +kernel) (pa_cons (pv 4) pa_nil)) (pv 3)) pe_int) pa_nil)))) po_none) po_none (po_some (pv 3))))
      (pss_cons (ps_set (i := 5) sc_law_world.nd rfl (Or.inr rfl) (pe_ix (ix_listK K rfl) (pe_lst (pa_cons pe_str (pa_cons pe_str pa_nil))) (pe_call G_law_take (hr.mono (by decide)) (by rfl) T.g_law_take T.F_law_take.kp T.b_law_take .nil pass0 (pa_cons (pv 0) (pa_cons pe_int pa_nil))) (fun _ _ => rfl)))
      (pss_cons (ps_set (i := 6) sc_law_world.nd rfl (Or.inl rfl) (pe_callTy (call_tupleK K rfl) (by rfl) T.m_tuple (by decide +kernel) (pa_cons (pe_lc (own := [("k", 7)]) (g := gName 7) (tt := tYes) (by rfl) sc_law_world.nd (pi_range1 (by rfl) T.m_range (pa_cons (pe_op op_add pe_int (pe_call G_law_take (hr.mono (by decide)) (by rfl) T.g_law_take T.F_law_take.kp T.b_law_take .nil pass0 (pa_cons (pv 0) (pa_cons (pv 2) pa_nil)))) pa_nil)) (blkOk_by (own := [("k", 7)]) (N := N_law_world) (by kernel_rfl)) (fun _ _ _ _ _ => (pg_name (i := 7) sc_law_world.nd rfl (Or.inl rfl))) (fun _ _ _ _ _ => pts_nil) (fun _ _ _ _ _ => (pe_call G_law_rule (hr.mono (by decide)) (by rfl) T.g_law_rule T.F_law_rule.kp T.b_law_rule .nil pass0 (pa_cons (pv 0) (pa_cons (pv 4) (pa_cons (pv 5) pa_nil)))))) pa_nil)))
      (pss_one (ps_ret (pe_tup (pa_cons (pv 4) (pa_cons (pv 5) (pa_cons (pv 6) (pa_cons (pe_call G_law_pattern (hr.mono (by decide)) (by rfl) T.g_law_pattern T.F_law_pattern.kp T.b_law_pattern .nil pass0 (pa_cons (pv 0) (pa_cons (pv 4) pa_nil))) (pa_cons (pe_call G_law_pattern (hr.mono (by decide)) (by rfl) T.g_law_pattern T.F_law_pattern.kp T.b_law_pattern .nil pass0 (pa_cons (pv 0) (pa_cons (pv 4) pa_nil))) pa_nil))))))))))))), ?_⟩
    -- many
    refine ⟨by show 6 ≤ sizeLine; decide, fun p1 n1 => ?_⟩
    refine ⟨.ref r, rfl, by show 3 ≤ sizeLine; decide, fun p2 n2 => ?_⟩
    have R2 := (hR.new (o := .lst [.int 2, .int 3, .int 3, .int 1, .int 4, .int 5]) n1).new (o := .lst [.int 4, .int 5, .int 6]) n2
    have o2 : Off r H (upd (upd H p1 (.lst [.int 2, .int 3, .int 3, .int 1, .int 4, .int 5])) p2 (.lst [.int 4, .int 5, .int 6])) := (Off.new n1).trans (Off.new n2)
    have e1 := (same_new (o := .lst [.int 4, .int 5, .int 6]) n2) p1 _ (upd_same (H := H) (o := .lst [.int 2, .int 3, .int 3, .int 1, .int 4, .int 5]))
    have e2 : (upd (upd H p1 (.lst [.int 2, .int 3, .int 3, .int 1, .int 4, .int 5])) p2 (.lst [.int 4, .int 5, .int 6])) p2 = some (.lst [.int 4, .int 5, .int 6]) := upd_same
    have r1 : p1 ≠ r := (hR.ne n1).symm
    generalize upd (upd H p1 (.lst [.int 2, .int 3, .int 3, .int 1, .int 4, .int 5])) p2 (.lst [.int 4, .int 5, .int 6]) = H2 at R2 o2 e1 e2
    refine ⟨.int 5, rfl, 5, 3, rfl, rfl, p2, _, 2, .int 6, rfl, rfl, .inl (.inl e2), atI_nat (j := 2) rfl, r, 6, k, rfl, R2, by omega, by decide, by decide, fun H3 g3 o3 R3 a0 a1 => ?_⟩
    obtain ⟨m, em, m1, m5⟩ := many_at a0 a1
    refine ⟨p1, _, g3, .int (m : Int), rfl, rfl, .inl (.inl (o3 _ _ r1 e1)), em, ?_⟩
    -- letters
    refine ⟨.ref r, rfl, r, 3, k + 1, rfl, R3, by omega, by decide, by decide, fun H4 g4 o4 R4 b0 b1 => ⟨g4, rfl, ?_⟩⟩
    refine ⟨.ref r, rfl, r, 5, k + 2, rfl, R4, by omega, by decide, by decide, fun H5 g5 o5 R5 c0 c1 => ⟨1, g5, rfl, rfl, 1 + g5, rfl, ?_⟩⟩
    obtain ⟨z1, z2, z3, z4, z5⟩ := az_step b0 b1 c0 c1
    refine ⟨az, g4, 1 + g5, rfl, rfl, rfl, by omega, Nat.le_trans z4 (by decide), z5, ?_⟩
    generalize stepS az g4 (1 + g5) = y at z1 z2 z3 z4
    have yl : y.length ≤ sizeLine := Nat.le_trans z4 (by decide)
    refine ⟨.str y, rfl, .ref r, rfl, .str y, rfl, y, rfl, yl, .int (m : Int), rfl, _, (m : Int), rfl, rfl, _, 1, rfl, rfl, r, (y.length : Int) - (m : Int) + 1, k + 3, rfl, R5, by omega, by omega, by omega, fun H6 g6 o6 R6 d0 d1 => ⟨g6, rfl, ?_⟩⟩
    obtain ⟨x, hx⟩ : ∃ x : Nat, g6 = (x : Int) := ⟨g6.toNat, by omega⟩
    subst hx
    unfold tNoPart
    refine ⟨y, rfl, yl, ?_⟩
    have ec : cutS y (some (x : Int)) none = tx (y.cps.toList.drop x) := by
      conv => lhs; rw [tx_of y]
      exact cut_hb _ x
    rw [ec]
    refine ⟨.int (m : Int), rfl, (m : Int), rfl, tx (y.cps.toList.drop x), rfl, ?_, ?_⟩
    · rw [tx_len, List.length_drop, Array.length_toList]
      exact Nat.le_trans (Nat.sub_le _ _) yl
    have ed : cutS (tx (y.cps.toList.drop x)) none (some (m : Int)) = tx ((y.cps.toList.drop x).take m) := cut_lo _ m
    rw [ed]
    have hz := let_cut z1 z2 m1 m5 (show x + m ≤ y.length by omega)
    generalize tx ((y.cps.toList.drop x).take m) = z at hz
    -- shape
    refine ⟨by show 2 ≤ sizeLine; decide, fun p7 n7 => ?_⟩
    refine ⟨.ref r, rfl, r, 2, k + 4, rfl, R6.new n7, by omega, by decide, by decide, fun H8 g8 o8 R8 f0 f1 => ?_⟩
    obtain ⟨sh, esh, hsh⟩ := two_at (a := "row") (b := "ring") f0 f1
    refine ⟨p7, _, g8, .str sh, rfl, rfl, .inl (.inl (o8 _ _ (R6.ne n7).symm upd_same)), esh, ?_⟩
    have off8 : Off r H H8 := ((((o2.trans o3).trans o4).trans o5).trans o6).trans ((Off.new n7).trans o8)
    -- rules
    refine ⟨.ref r, rfl, .int 8, rfl, r, 8, k + 5, rfl, R8, by omega, by decide, by decide, fun H9 g9 o9 R9 h0 h1 => ⟨1, g9, rfl, rfl, 1 + g9, rfl, by omega, by omega, fun D nD => ?_⟩⟩
    have rD : r ≠ D := R9.ne nD
    have off9 := off8.trans o9
    have fD : H D = none := off9.free rD nD
    refine lc_it (walk_range (lo := 0) (n := (1 + g9).toNat)) (fun i H' => Off r H H' ∧ RowAt H' r (k + 6 + 20 * i) ∧ ∃ ps rs, H' D = some (.lst (vr ps)) ∧ ps.length = i ∧ RulsAt H' ps rs ∧ ∀ R ∈ rs, R.Ok z sh) ⟨off9.mut fD, R9.new nD, [], [], upd_same, rfl, RulsAt.nil, fun R h => by cases h⟩ (fun _ _ _ _ => trivial) (fun i v H10 H10' hi hW hY => ?_) (fun H10 hW => ?_)
    · obtain ⟨o10, R10, ps, rs, e10, l10, ru, rok⟩ := hW
      obtain ⟨rfl, rfl⟩ := hY
      have hi8 : i < 8 := by omega
      refine ⟨rfl, lcyes ?_⟩
      refine ⟨.ref r, rfl, .str z, rfl, .str sh, rfl, r, z, sh, k + 6 + 20 * i, rfl, R10, by omega, hz, fun H11 p R o11 R11 hp ok => ?_⟩
      have e11 := o11 _ _ rD.symm e10
      have tp : Tups H10' (upd H11 D (.lst (vr ps ++ [V.ref p]))) := (Tups.off R10 o11).trans (Tups.lst e11)
      refine ⟨_, e11, ?_, (o10.trans o11).mut fD, (R11.upd rD).le (by omega), ps ++ [p], rs ++ [R], ?_, ?_, (ru.mono tp).snoc (hp.mono (Tups.lst e11)), mem_snoc rok ok⟩
      · rw [List.length_map]
        exact small1000 (by omega)
      · rw [upd_same, vr_snoc]
      · rw [List.length_append, l10]
        rfl
    · obtain ⟨o10, R10, ps, rs, e10, l10, ru, rok⟩ := hW
      have R10 := R10.le (show _ ≤ k + 6 + 160 by omega)
      refine ⟨D, vr ps, rfl, .inl ⟨.inl (.inl e10), fun l nl => ?_⟩⟩
      have R11 := R10.new (o := .tup (vr ps)) nl
      have t11 : Tups H10 (upd H10 l (.tup (vr ps))) := Tups.new nl
      have o11 : Off r H (upd H10 l (.tup (vr ps))) := o10.trans (Off.new nl)
      have e11 : (upd H10 l (.tup (vr ps))) l = some (.tup (vr ps)) := upd_same
      generalize upd H10 l (.tup (vr ps)) = H11 at R11 t11 o11 e11
      refine ⟨.str z, rfl, .str sh, rfl, .ref l, rfl, .ref r, rfl, .str z, rfl, r, z, k + 6 + 160, rfl, R11, by omega, hz, fun H12 b o12 R12 _ => ?_⟩
      refine ⟨.ref r, rfl, .str z, rfl, r, z, k + 6 + 160 + 50, rfl, R12, by omega, hz, fun H13 d o13 R13 _ => ?_⟩
      refine ⟨by show 5 ≤ sizeLine; decide, fun a na => ?_⟩
      have t14 : Tups H11 (upd H13 a (.tup [.str z, .str sh, .ref l, .str b, .str d])) := ((Tups.off R11 o12).trans (Tups.off R12 o13)).trans (Tups.new na)
      refine q _ a ⟨z, sh, rs, b, d⟩ ((o11.trans (o12.trans o13)).trans (Off.new na)) ⟨l, ps, upd_same, t14 _ _ e11, ru.1, (ru.mono (t11.trans t14)).2⟩ ⟨hz, hsh, ?_, rok⟩
      show 1 ≤ rs.length ∧ rs.length ≤ 8
      rw [← ru.1, l10]
      omega
end
end LH

namespace LH
open PySem PySem.Spec PyProof.Rows L2
section
variable {X : Cx} (K : PySem.W.Frag) (hK : X.K = K)
include hK
theorem op_eqDK (hu : X.A.units + 64 < cLine) : OpR X (compareOp .Eq) (rEqD K) := by subst hK; exact op_eqD hu
theorem op_neDK (hu : X.A.units + 64 < cLine) : OpR X (compareOp .NotEq) (rNeD K) := by subst hK; exact op_neD hu
end
/-! ### what a rule makes at a place -/
def nb (sh : Str) (n i : Nat) : Option Nat := if i + 1 < n then some (i + 1) else if sh = "ring" ∧ 1 < n then some 0 else none
def tAt (z sh : Str) (cs : List Nat) (i : Nat) : Rul → Option (List Nat)
  | .one x y g => if (decide (cs[i]? = some x) && gOk cs i g) = true then some (cs.set i y) else none
  | .call x y im => if decide (cs[i]? = some x) = true then some ((cs.map (imOf z im)).set i y) else none
  | .two x y u v => (nb sh cs.length i).bind fun j => if (decide (cs[i]? = some x) && decide (cs[j]? = some y)) = true then some ((cs.set i u).set j v) else none
def mA (z sh : Str) (cs : List Nat) (R : Rul) (n : Nat) : List (Nat × List Nat) := (List.range n).filterMap fun i => (tAt z sh cs i R).map fun w => (i, w)
theorem mA_succ (z sh : Str) (cs : List Nat) (R : Rul) (n : Nat) : mA z sh cs R (n + 1) = mA z sh cs R n ++ match tAt z sh cs n R with | some w => [(n, w)] | none => [] := by
  unfold mA
  rw [List.range_succ, List.filterMap_append]
  congr 1
  cases h : tAt z sh cs n R with
  | none => simp [h]
  | some w => simp [h]
theorem fm_congr {α β : Type} {f g : α → Option β} {l : List α} (h : ∀ a ∈ l, f a = g a) : l.filterMap f = l.filterMap g := by
  induction l with
  | nil => rfl
  | cons a r ih => rw [List.filterMap_cons, List.filterMap_cons, h a List.mem_cons_self, ih fun x hx => h x (List.mem_cons_of_mem _ hx)]
theorem fm_filter {α β : Type} (p : α → Bool) (f : α → β) (l : List α) : (l.filter p).map f = l.filterMap fun i => if p i = true then some (f i) else none := by
  induction l with
  | nil => rfl
  | cons a r ih =>
    by_cases h : p a = true
    · rw [List.filter_cons_of_pos h, List.map_cons, ih, List.filterMap_cons, if_pos h]
    · rw [List.filter_cons_of_neg h, ih, List.filterMap_cons, if_neg h]
theorem prs_eq (sh : Str) (n : Nat) : prs sh n = (List.range n).filterMap fun i => (nb sh n i).map fun j => (i, j) := by
  unfold prs
  cases n with
  | zero =>
    rw [if_neg (by rintro ⟨_, h⟩; omega)]
    rfl
  | succ m =>
    rw [List.range_succ, List.filterMap_append]
    congr 1
    · show (List.range (m + 1 - 1)).map _ = _
      rw [show m + 1 - 1 = m by omega, ← List.filterMap_eq_map]
      refine fm_congr fun i hi => ?_
      have := List.mem_range.mp hi
      unfold nb
      rw [if_pos (by omega)]
      rfl
    · by_cases h : sh = "ring" ∧ 1 < m + 1
      · rw [if_pos h]
        have e : nb sh (m + 1) m = some 0 := by
          unfold nb
          rw [if_neg (by omega), if_pos h]
        rw [List.filterMap_cons, e]
        rfl
      · rw [if_neg h]
        have e : nb sh (m + 1) m = none := by
          unfold nb
          rw [if_neg (by omega), if_neg h]
        rw [List.filterMap_cons, e]
        rfl
theorem mAll_eq (z sh : Str) (cs : List Nat) (R : Rul) : mAll z sh cs R = mA z sh cs R cs.length := by
  cases R with
  | one x y g =>
    show mOne x y g cs cs.length = _
    unfold mOne mA
    rw [fm_filter]
    refine fm_congr fun i _ => ?_
    unfold tAt
    dsimp only
    split <;> rfl
  | call x y im =>
    show mCall x y z im cs cs.length = _
    unfold mCall mA
    rw [fm_filter]
    refine fm_congr fun i _ => ?_
    unfold tAt
    dsimp only
    split <;> rfl
  | two x y u v =>
    show mTwo x y u v cs (prs sh cs.length) = _
    unfold mTwo mA
    rw [fm_filter, prs_eq, List.filterMap_filterMap]
    refine fm_congr fun i _ => ?_
    unfold tAt
    dsimp only
    cases h : nb sh cs.length i with
    | none => rfl
    | some j =>
      show (if _ = true then _ else _) = Option.map _ (if _ = true then _ else _)
      split <;> rfl
/-- the places at which just the text o is made -/
def plc (ms : List (Nat × List Nat)) (o : Str) : List Nat := (ms.filter fun m => decide (tx m.2 = o)).map Prod.fst
theorem plc_app (a b : List (Nat × List Nat)) (o : Str) : plc (a ++ b) o = plc a o ++ plc b o := by
  unfold plc
  rw [List.filter_append, List.map_append]
theorem plc_one (m : Nat × List Nat) (o : Str) : plc [m] o = if tx m.2 = o then [m.1] else [] := by
  unfold plc
  by_cases h : tx m.2 = o
  · rw [if_pos h, List.filter_cons_of_pos (by exact decide_eq_true h)]
    rfl
  · rw [if_neg h, List.filter_cons_of_neg (by simpa using h)]
    rfl
theorem plc_len (ms : List (Nat × List Nat)) (o : Str) : (plc ms o).length ≤ ms.length := by
  unfold plc
  rw [List.length_map]
  exact List.length_filter_le _ _
theorem mA_len (z sh : Str) (cs : List Nat) (R : Rul) (n : Nat) : (mA z sh cs R n).length ≤ n := by
  unfold mA
  have := List.length_filterMap_le (fun i => (tAt z sh cs i R).map fun w => (i, w)) (List.range n)
  rw [List.length_range] at this
  exact this
theorem plc_nil {ms : List (Nat × List Nat)} {o : Str} : plc ms o = [] ↔ ¬ ∃ m ∈ ms, tx m.2 = o := by
  unfold plc
  rw [List.map_eq_nil_iff, List.filter_eq_nil_iff]
  constructor
  · rintro h ⟨m, hm, e⟩
    exact h m hm (decide_eq_true e)
  · intro h m hm e
    exact h ⟨m, hm, of_decide_eq_true e⟩
theorem nb_lt {sh : Str} {n i j : Nat} (hi : i < n) (h : nb sh n i = some j) : j < n := by
  unfold nb at h
  split at h
  · cases h
    assumption
  · split at h
    · cases h
      omega
    · cases h
section
variable {P : Program} {w : World} {K : PySem.W.Frag} {mg : Str → Option Value} {base : Heap}
/-! ### places_of -/
def sp_places_of : Sp := fun vs H Q _ => ∃ (a : Addr) (W : Wd) (i : Nat) (R : Rul) (cs : List Nat) (o : Str), vs = [.ref a, .int (i : Int), .str (tx cs), .str o] ∧ WdAt H a W ∧ WdK W ∧ W.rs[i]? = some R ∧ cs.length ≤ 100 ∧ (∀ c ∈ cs, c ∈ W.z.cps.toList) ∧ ∀ H' l, Same H H' → H l = none → H' l = some (.lst (vi (plc (mAll W.z W.sh cs R) o))) → Q (.ref l) H'
theorem ok_places_of (T : TX K mg) : FnOk P w K mg base CX0 4 T.a_places_of T.fd_places_of ["world", "number", "word", "other"] sp_places_of := by
  have G_made_at : FnOk P w K mg base CX0 3 T.a_made_at T.fd_made_at ["letters", "shape", "rule", "word"] sp_made_at := ok_made_at T
  refine T.F_places_of.ok sc_places_of (fun vs H Q E h => ?_) (fun cdv A outer s H vs Q E hr h => ?_)
  · obtain ⟨a, W, i, R, cs, o, rfl, _⟩ := h
    rfl
  · obtain ⟨a, W, i, R, cs, o, rfl, ⟨r, ps, e1, e2, l1, rl⟩, ok, hR, hl, hc, q⟩ := h
    refine ⟨_, (pss_cons (ps_asg (pv 0) (pg_tupK (n := 5) K rfl (by rfl) (pgs_cons (pg_name (i := 4) sc_places_of.nd rfl (Or.inl rfl)) (pgs_cons (pg_name (i := 5) sc_places_of.nd rfl (Or.inl rfl)) (pgs_cons (pg_name (i := 6) sc_places_of.nd rfl (Or.inl rfl)) (pgs_cons (pg_name (i := 7) sc_places_of.nd rfl (Or.inl rfl)) (pgs_cons (pg_name (i := 8) sc_places_of.nd rfl (Or.inl rfl)) pgs_nil)))))))
      (pss_one (ps_ret (pe_lc (own := [("place", 9), ("made", 10)]) (by rfl) sc_places_of.nd (pi_listK K rfl (pe_call G_made_at (hr.mono (by decide)) (by rfl) T.g_made_at T.F_made_at.kp T.b_made_at .nil pass0 (pa_cons (pv 4) (pa_cons (pv 5) (pa_cons (pe_ix (ix_tupK K rfl) (pv 6) (pv 1) (fun _ _ => rfl)) (pa_cons (pv 2) pa_nil)))))) (blkOk_by (own := [("place", 9), ("made", 10)]) (N := N_places_of) (by kernel_rfl)) (fun _ _ _ _ _ => (pg_tupK (n := 2) K rfl (by rfl) (pgs_cons (pg_name (i := 9) sc_places_of.nd rfl (Or.inl rfl)) (pgs_cons (pg_name (i := 10) sc_places_of.nd rfl (Or.inl rfl)) pgs_nil)))) (fun _ _ _ _ _ => (pts_one (pt_cmpR op_eq (pv 10) (pv 3) (nomark _)))) (fun _ _ _ _ _ => (pv 9)))))), ?_⟩
    have h5 := ok.let_.five
    have hi : i < W.rs.length := (List.getElem?_eq_some_iff.mp hR).1
    obtain ⟨p, hp⟩ : ∃ p, ps[i]? = some p := ⟨_, List.getElem?_eq_getElem (by rw [l1]; exact hi)⟩
    have hv : (vr ps)[i]? = some (.ref p) := by rw [List.getElem?_map, hp]; rfl
    refine ⟨.ref a, rfl, a, [.str W.z, .str W.sh, .ref r, .str W.b, .str W.d], rfl, .inl (.inl e1), rfl, .str W.z, _, rfl, .str W.sh, _, rfl, .ref r, _, rfl, .str W.b, _, rfl, .str W.d, [], rfl, rfl, ?_⟩
    refine ⟨.str W.z, rfl, .str W.sh, rfl, .ref r, rfl, .int (i : Int), rfl, r, vr ps, (i : Int), .ref p, rfl, rfl, .inl (.inl e2), atI_nat hv, .str (tx cs), rfl, W.z, W.sh, p, R, cs, rfl, rl i p R hp hR, ok.rs R (List.mem_of_getElem? hR), by omega, hl, hc, fun H1 l as s1 nl el m1 => ⟨l, rfl, ⟨_, .inl (.inl el)⟩, fun D nD => ?_⟩⟩
    have fD : H D = none := Same.free s1 nD
    have ml : (mAll W.z W.sh cs R).length ≤ 100 := by
      rw [mAll_eq]
      exact Nat.le_trans (mA_len _ _ _ _ _) hl
    refine lc_it (walk_list (K := K) (a := l) (xs := vr as)) (fun j H' => Same H H' ∧ H' l = some (.lst (vr as)) ∧ MdAt H' as (mAll W.z W.sh cs R) ∧ H' D = some (.lst (vi (plc ((mAll W.z W.sh cs R).take j) o)))) ⟨s1.trans (same_new nD), (same_new nD) _ _ el, m1.mono (Tups.new nD), upd_same⟩ (fun j H' _ hP => .inl (.inl hP.2.1)) (fun j x H2 H2' hj hW hY => ?_) (fun H2 hW => ?_)
    · obtain ⟨s2, el2, m2, d2⟩ := hW
      obtain ⟨rfl, hx⟩ := hY
      rw [List.length_map] at hj
      obtain ⟨a2, ha2, rfl⟩ := ref_at hx
      obtain ⟨m, hm⟩ : ∃ m, (mAll W.z W.sh cs R)[j]? = some m := ⟨_, List.getElem?_eq_getElem (by rw [← m2.1]; exact hj)⟩
      have ht := m2.2 j a2 m ha2 hm
      have et : (mAll W.z W.sh cs R).take (j + 1) = (mAll W.z W.sh cs R).take j ++ [m] := by
        rw [List.take_add_one, hm]
        rfl
      have lD : l ≠ D := fun z => by
        rw [z, nD] at el
        cases el
      refine ⟨a2, [.int (m.1 : Int), .str (tx m.2)], rfl, .inl (.inl ht), rfl, .int (m.1 : Int), _, rfl, .str (tx m.2), [], rfl, rfl, rfl, ?_⟩
      refine ⟨.str (tx m.2), rfl, .str o, rfl, rfl, _, rfl, ?_⟩
      rw [str_eq]
      by_cases ho : tx m.2 = o
      · rw [decide_eq_true ho]
        refine ⟨.int (m.1 : Int), rfl, vi (plc ((mAll W.z W.sh cs R).take j) o), d2, ?_, fun b ob e => ?_, ?_, m2.mono (Tups.lst d2), ?_⟩
        · rw [List.length_map]
          have := plc_len ((mAll W.z W.sh cs R).take j) o
          have := take_len j (mAll W.z W.sh cs R)
          exact small1000 (by omega)
        · rw [upd_ne (ne_of_none e fD)]
          exact s2 b ob e
        · rw [upd_ne lD]
          exact el2
        · rw [upd_same, et, plc_app, plc_one, if_pos ho, vi_snoc]
      · rw [decide_eq_false ho]
        refine ⟨s2, el2, m2, ?_⟩
        rw [et, plc_app, plc_one, if_neg ho, List.append_nil]
        exact d2
    · obtain ⟨s2, el2, m2, d2⟩ := hW
      rw [List.length_map, m2.1, List.take_of_length_le (Nat.le_refl _)] at d2
      exact q _ D s2 fD d2
/-! ### _law_guarded -/
def sp_law_guarded : Sp := fun vs H Q _ => ∃ (v : V) (g : Option Grd) (z sh : Str) (cs : List Nat) (i : Nat), vs = [v, .str (tx cs), .int (i : Int)] ∧ GrdAt H v g ∧ (∀ G, g = some G → G.Ok z sh) ∧ IsLet z ∧ (∀ c ∈ cs, c ∈ z.cps.toList) ∧ i < cs.length ∧ cs.length ≤ 100 ∧ ∀ H', Same H H' → Q (.bl (gOk cs i g)) H'
theorem all_len (p : Nat → Bool) : ∀ l : List Nat, decide (((l.filter p).length : Int) = (l.length : Int)) = l.all p
  | [] => rfl
  | c :: r => by
    have ih := all_len p r
    have := List.length_filter_le p r
    by_cases h : p c = true
    · rw [List.filter_cons_of_pos h, List.all_cons, h, Bool.true_and, ← ih, List.length_cons, List.length_cons]
      congr 1
      rw [eq_iff_iff]
      omega
    · rw [List.filter_cons_of_neg h, List.all_cons, (by simpa using h : p c = false), Bool.false_and, List.length_cons]
      refine decide_eq_false ?_
      omega
theorem any_nil (p : Nat → Bool) : ∀ l : List Nat, (!decide (l.filter p = [])) = l.any p
  | [] => rfl
  | c :: r => by
    by_cases h : p c = true
    · rw [List.filter_cons_of_pos h, List.any_cons, h]
      simp
    · rw [List.filter_cons_of_neg h, List.any_cons, (by simpa using h : p c = false), Bool.false_or]
      exact any_nil p r
theorem eqv_sg (cs : List Nat) : PyData.eqv (.list ((cs.map sg).map PyData.str)) (.list []) = decide (cs = []) := by
  cases cs with
  | nil => rfl
  | cons c r => rfl
theorem ok_law_guarded (T : TX K mg) : FnOk P w K mg base CX0 1 T.a_law_guarded T.fd_law_guarded ["guard", "word", "place"] sp_law_guarded := by
  refine T.F_law_guarded.ok sc_law_guarded (fun vs H Q E h => ?_) (fun cdv A outer s H vs Q E hr h => ?_)
  · obtain ⟨v, g, z, sh, cs, i, rfl, _⟩ := h
    rfl
  · obtain ⟨v, g, z, sh, cs, i, rfl, hg, hok, hz, hc, hi, hl, q⟩ := h
    refine ⟨_, (pss_cons (ps_if (pt_cmpR op_isN (pv 0) pe_non (nomark _))
        (pss_one (ps_ret pe_bl))
        pss_nil)
      (pss_cons (ps_set (i := 3) sc_law_guarded.nd rfl (Or.inl rfl) (pe_op op_add_str (pe_slice sl_str (pv 1) po_none (po_some (pv 2))) (pe_slice sl_str (pv 1) (po_some (pe_op op_add (pv 2) pe_int)) po_none)))
      (C8.pss_cut (ps_if (pt_cmpR op_eq (pe_ix (ix_tupK K rfl) (pv 0) pe_int (fun _ _ => rfl)) pe_str (nomark _))
        (pss_one (ps_set (i := 3) sc_law_guarded.nd rfl (Or.inl rfl) (pe_slice sl_str (pv 1) po_none (po_some (pv 2)))))
        pss_nil)
      (C8.pss_cut (ps_if (pt_cmpR op_eq (pe_ix (ix_tupK K rfl) (pv 0) pe_int (fun _ _ => rfl)) pe_str (nomark _))
        (pss_one (ps_set (i := 3) sc_law_guarded.nd rfl (Or.inl rfl) (pe_slice sl_str (pv 1) (po_some (pe_op op_add (pv 2) pe_int)) po_none)))
        pss_nil)
      (pss_cons (ps_setLc (i := 4) (own := [("letter", 5)]) (g := gName 5) (by rfl) sc_law_guarded.nd rfl rfl (sw_true rfl rfl rfl (by decide +kernel)) (pi_str (pv 3)) (blkOk_by (own := [("letter", 5)]) (N := N_law_guarded) (by kernel_rfl)) (fun _ _ _ _ _ => (pg_name (i := 5) sc_law_guarded.nd rfl (Or.inl rfl))) (fun _ _ _ _ _ => (pts_one (pt_cmpR op_in_sign (pv 5) (pe_ix (ix_tupK K rfl) (pv 0) pe_int (fun _ _ => rfl)) (by rfl)))) (fun _ _ _ _ _ => (pv 5)))
      (pss_cons (ps_if (pt_cmpR op_eq (pe_ix (ix_tupK K rfl) (pv 0) pe_int (fun _ _ => rfl)) pe_str (nomark _))
        (pss_one (ps_ret (pe_cmpR op_eq (pe_callB (call_lenK K rfl) (by rfl) T.m_len (by decide +kernel) (pa_cons (pv 4) pa_nil)) (pe_callB call_len_str (by rfl) T.m_len (by decide +kernel) (pa_cons (pv 3) pa_nil)) (nomark _))))
        pss_nil)
      (pss_one (ps_ret (pe_cmpR (op_neD hr.units) (pv 4) (pe_lst pa_nil) (nomark _)))))))))), ?_⟩
    have wl : (tx cs).length ≤ sizeLine := by
      rw [tx_len]
      exact Nat.le_trans hl (by decide)
    cases g with
    | none =>
      obtain rfl : v = .non := hg
      exact ⟨.non, rfl, rfl, _, rfl, iteT (q _ fun _ _ e => e)⟩
    | some G =>
      obtain ⟨gp, rfl, e⟩ := hg
      have gk := hok G rfl
      refine ⟨.ref gp, rfl, rfl, _, rfl, iteF ?_⟩
      have l1 := take_len i cs
      have ld : (cs.drop (i + 1)).length ≤ cs.length := by rw [List.length_drop]; omega
      have w1 : (tx (cs.take i)).length + (tx (cs.drop (i + 1))).length ≤ sizeLine := by
        rw [tx_len, tx_len]
        exact Nat.le_of_lt (small1000 (by omega))
      refine ⟨.str (tx cs), rfl, .int (i : Int), rfl, (i : Int), rfl, tx cs, rfl, wl, .str (tx cs), rfl, .int (i : Int), rfl, (i : Int), 1, rfl, rfl, (i : Int) + 1, rfl, tx cs, rfl, wl, tx (cs.take i), tx (cs.drop (i + 1)), by rw [cut_lo], by rw [cut_hi], w1, ?_⟩
      rw [tx_app]
      refine ⟨fun σ' H' => H' = H ∧ σ' = [some (.ref gp), some (.str (tx cs)), some (.int (i : Int)), some (.str (tx (if G.wh = "left" then cs.take i else cs.take i ++ cs.drop (i + 1)))), none, none], ?_, fun σ' H' hM => ?_⟩
      · refine ⟨.ref gp, rfl, gp, _, 1, .str G.wh, rfl, rfl, .inl (.inl e), atI_nat (j := 1) rfl, rfl, _, rfl, ?_⟩
        rw [str_eq]
        by_cases hw : G.wh = "left"
        · rw [decide_eq_true hw, if_pos hw]
          refine ⟨.str (tx cs), rfl, .int (i : Int), rfl, (i : Int), rfl, tx cs, rfl, wl, ?_⟩
          rw [cut_lo]
          exact ⟨rfl, rfl⟩
        · rw [decide_eq_false hw, if_neg hw]
          exact ⟨rfl, rfl⟩
      obtain ⟨rfl, rfl⟩ := hM
      refine ⟨fun σ' H'' => H'' = H' ∧ σ' = [some (.ref gp), some (.str (tx cs)), some (.int (i : Int)), some (.str (tx (gSee G cs i))), none, none], ?_, fun σ' H'' hM => ?_⟩
      · refine ⟨.ref gp, rfl, gp, _, 1, .str G.wh, rfl, rfl, .inl (.inl e), atI_nat (j := 1) rfl, rfl, _, rfl, ?_⟩
        rw [str_eq]
        unfold gSee
        by_cases hw : G.wh = "right"
        · rw [decide_eq_true hw, if_pos hw, if_neg (by rw [hw]; decide)]
          refine ⟨.str (tx cs), rfl, .int (i : Int), rfl, (i : Int), 1, rfl, rfl, (i : Int) + 1, rfl, tx cs, rfl, wl, ?_⟩
          rw [cut_hi]
          exact ⟨rfl, rfl⟩
        · rw [decide_eq_false hw, if_neg hw]
          by_cases hw2 : G.wh = "left"
          · rw [if_pos hw2, if_pos hw2, List.append_nil]
            exact ⟨rfl, rfl⟩
          · rw [if_neg hw2, if_neg hw2]
            exact ⟨rfl, rfl⟩
      obtain ⟨rfl, rfl⟩ := hM
      have see : (gSee G cs i).length ≤ 200 := by
        unfold gSee
        rw [List.length_append]
        have a1 : (if G.wh = "right" then [] else cs.take i).length ≤ 100 := by
          split
          · exact Nat.zero_le _
          · omega
        have a2 : (if G.wh = "left" then [] else cs.drop (i + 1)).length ≤ 100 := by
          split
          · exact Nat.zero_le _
          · omega
        omega
      have seeM : ∀ c ∈ gSee G cs i, c ∈ z.cps.toList := fun c h => by
        unfold gSee at h
        rcases List.mem_append.mp h with h | h
        · split at h
          · cases h
          · exact hc c (List.mem_of_mem_take h)
        · split at h
          · cases h
          · exact hc c (List.mem_of_mem_drop h)
      generalize hsee : gSee G cs i = ss at see seeM
      refine ⟨.str (tx ss), rfl, tx ss, rfl, fun D nD => ?_⟩
      refine lc_it walk_str (fun j H1 => Same H'' H1 ∧ H1 D = some (.lst (vs_ ((ss.take j).filter fun c => decide (c ∈ G.sm))))) ⟨same_new nD, upd_same⟩ (fun _ _ _ _ => trivial) (fun j v H1 H1' hj hW hY => ?_) (fun H1 hW => ?_)
      · obtain ⟨s1, e1⟩ := hW
        obtain ⟨rfl, c, hcc, rfl⟩ := hY
        have hc' : ss[j]? = some c := by
          rw [← hcc]
          simp
        refine ⟨rfl, .str (sg c), rfl, .ref gp, rfl, gp, _, 2, .str (tx G.sm), rfl, rfl, .inl (.inl (s1 _ _ e)), atI_nat (j := 2) rfl, c, _, rfl, rfl, _, rfl, ?_⟩
        have em : (ss.take (j + 1)).filter (fun c => decide (c ∈ G.sm)) = (ss.take j).filter (fun c => decide (c ∈ G.sm)) ++ if decide (c ∈ G.sm) = true then [c] else [] := by
          rw [List.take_add_one, hc', List.filter_append]
          congr 1
          show List.filter _ [c] = _
          by_cases h : decide (c ∈ G.sm) = true
          · rw [if_pos h, List.filter_cons_of_pos (by exact h)]
            rfl
          · rw [if_neg h, List.filter_cons_of_neg (by exact h)]
            rfl
        by_cases h : decide (c ∈ G.sm) = true
        · rw [if_pos h] at em
          refine (show ite _ _ _ from ?_)
          rw [show (decide (c ∈ (⟨G.sm.toArray⟩ : Str).cps.toList)) = true from h]
          refine ⟨.str (sg c), rfl, _, e1, ?_, fun b ob eb => ?_, ?_⟩
          · rw [List.length_map]
            have := List.length_filter_le (fun c => decide (c ∈ G.sm)) (ss.take j)
            have := take_len j ss
            exact small1000 (by omega)
          · rw [upd_ne (ne_of_none eb nD)]
            exact s1 b ob eb
          · rw [upd_same, em, vs_snoc]
        · rw [if_neg h, List.append_nil] at em
          refine (show ite _ _ _ from ?_)
          rw [show (decide (c ∈ (⟨G.sm.toArray⟩ : Str).cps.toList)) = false from by simpa using h]
          refine ⟨s1, ?_⟩
          rw [em]
          exact e1
      · obtain ⟨s1, e1⟩ := hW
        rw [List.take_of_length_le (by rw [List.size_toArray]; exact Nat.le_refl _)] at e1
        have sl : (tx ss).length ≤ sizeLine := by
          rw [tx_len]
          exact Nat.le_trans see (by decide)
        refine ⟨.ref gp, rfl, gp, _, 0, .str G.how, rfl, rfl, .inl (.inl (s1 _ _ e)), atI_nat (j := 0) rfl, rfl, _, rfl, ?_⟩
        rw [str_eq]
        by_cases hh : G.how = "all"
        · rw [decide_eq_true hh]
          refine ⟨.ref D, rfl, D, _, rfl, .inl (.inl (.inl e1)), .str (tx ss), rfl, tx ss, rfl, sl, rfl, ?_⟩
          have ea : decide (V.int ((vs_ (ss.filter fun c => decide (c ∈ G.sm))).length : Int) = V.int ((tx ss).length : Int)) = ss.all fun c => decide (c ∈ G.sm) := by
            rw [← all_len]
            rw [List.length_map, tx_len]
            by_cases h : ((ss.filter fun c => decide (c ∈ G.sm)).length : Int) = (ss.length : Int)
            · rw [decide_eq_true h, h]
              simp
            · rw [decide_eq_false h, decide_eq_false fun z => h (V.int.inj z)]
          rw [ea]
          have := q H1 s1
          rw [gOk_all hh, hsee] at this
          exact this
        · rw [decide_eq_false hh]
          refine ⟨.ref D, rfl, by show 0 ≤ sizeLine; decide, fun p5 n5 => ?_⟩
          have ev : vs_ (ss.filter fun c => decide (c ∈ G.sm)) = ((ss.filter fun c => decide (c ∈ G.sm)).map sg).map V.str := by rw [List.map_map]; rfl
          refine ⟨.list (((ss.filter fun c => decide (c ∈ G.sm)).map sg).map PyData.str), .list [], .lst (.inl (.inl ((same_new n5) _ _ e1))) (ev ▸ dpAll_str _), .lst (.inl (.inl upd_same)) .nil, shaped_strs _ (fun x hx => ?_), shaped_strs [] (fun _ h => nomatch h), ?_⟩
          · obtain ⟨c, hcx, rfl⟩ := List.mem_map.mp hx
            exact strOk_sg (hz.small c (seeM c (List.mem_filter.mp hcx).1)).2
          · rw [eqv_sg, any_nil]
            have := q _ (s1.trans (same_new (o := .lst []) n5))
            rw [gOk_any hh, hsee] at this
            exact this
end
end LH

namespace LH
open PySem PySem.Spec PyProof.Rows L2
/-- what is told of a place: a text or None -/
def tV : Option (List Nat) → V
  | some w => .str (tx w)
  | none => .non
section
variable {P : Program} {w : World} {K : PySem.W.Frag} {mg : Str → Option Value} {base : Heap}
/-! ### _law_turned_at -/
def sp_law_turned_at : Sp := fun vs H Q _ => ∃ (z sh : Str) (p : Addr) (R : Rul) (cs : List Nat) (i : Nat), vs = [.str z, .str sh, .ref p, .str (tx cs), .int (i : Int)] ∧ RulAt H p R ∧ R.Ok z sh ∧ IsLet z ∧ (sh = "row" ∨ sh = "ring") ∧ (∀ c ∈ cs, c ∈ z.cps.toList) ∧ i < cs.length ∧ cs.length ≤ 100 ∧ ∀ H', Same H H' → Q (tV (tAt z sh cs i R)) H'
theorem join_vs' {K : PySem.W.Frag} {H : Hp} {d : Addr} {ds : List Nat} (hd : H d = some (.lst (vs_ ds))) (hl : ds.length ≤ 1000) : (SqL K H d ((ds.map sg).map V.str) ∨ SqT K H d ((ds.map sg).map V.str)) ∧ ((ds.map sg).map (·.length)).sum + (ds.map sg).length * (⟨#[]⟩ : Str).length ≤ 16777216 := by
  refine ⟨.inl (.inl (.inl (by rw [hd, vs_map]))), ?_⟩
  rw [List.length_map, sum_sg]
  show _ + _ * 0 ≤ 16777216
  omega
theorem ok_law_turned_at (T : TX K mg) : FnOk P w K mg base CX0 2 T.a_law_turned_at T.fd_law_turned_at ["letters", "shape", "rule", "word", "place"] sp_law_turned_at := by
  have G_law_guarded : FnOk P w K mg base CX0 1 T.a_law_guarded T.fd_law_guarded ["guard", "word", "place"] sp_law_guarded := ok_law_guarded T
  refine T.F_law_turned_at.ok sc_law_turned_at (fun vs H Q E h => ?_) (fun cdv A outer s H vs Q E hr h => ?_)
  · obtain ⟨z, sh, p, R, cs, i, rfl, _⟩ := h
    rfl
  · obtain ⟨z, sh, p, R, cs, i, rfl, hp, ok, hz, hsh, hc, hi, hl, q⟩ := h
    refine ⟨_, (pss_cons (ps_if (pt_cmpR op_ne (pe_ix ix_str (pv 3) (pv 4) (fun _ _ => rfl)) (pe_ix (ix_tupK K rfl) (pv 2) pe_int (fun _ _ => rfl)) (nomark _))
        (pss_one (ps_ret pe_non))
        pss_nil)
      (pss_cons (ps_if (pt_cmpR op_eq (pe_ix (ix_tupK K rfl) (pv 2) pe_int (fun _ _ => rfl)) pe_str (nomark _))
        (pss_one (ps_ret (pe_ifExp (pt_val (pe_call G_law_guarded (hr.mono (by decide)) (by rfl) T.g_law_guarded T.F_law_guarded.kp T.b_law_guarded .nil pass0 (pa_cons (pe_ix (ix_tupK K rfl) (pv 2) pe_int (fun _ _ => rfl)) (pa_cons (pv 3) (pa_cons (pv 4) pa_nil))))) (pe_op op_add_str (pe_op op_add_str (pe_slice sl_str (pv 3) po_none (po_some (pv 4))) (pe_ix (ix_tupK K rfl) (pv 2) pe_int (fun _ _ => rfl))) (pe_slice sl_str (pv 3) (po_some (pe_op op_add (pv 4) pe_int)) po_none)) pe_non)))
        pss_nil)
      (pss_cons (ps_if (pt_cmpR op_eq (pe_ix (ix_tupK K rfl) (pv 2) pe_int (fun _ _ => rfl)) pe_str (nomark _))
        (pss_cons (ps_setLc (i := 5) (own := [("letter", 7)]) (g := gName 7) (tt := tYes) (by rfl) sc_law_turned_at.nd rfl rfl (sw_true rfl rfl rfl (by decide +kernel)) (pi_str (pv 3)) (blkOk_by (own := [("letter", 7)]) (N := N_law_turned_at) (by kernel_rfl)) (fun _ _ _ _ _ => (pg_name (i := 7) sc_law_turned_at.nd rfl (Or.inl rfl))) (fun _ _ _ _ _ => pts_nil) (fun _ _ _ _ _ => (pe_ix ix_str (pe_ix (ix_tupK K rfl) (pv 2) pe_int (fun _ _ => rfl)) (pe_m1 PySem.F.slot_str_index PySem.F.type_str_index mt_sindex (pv 0) (pv 7)) (fun _ _ => rfl))))
          (pss_cons (ps_asg (pe_ix (ix_tupK K rfl) (pv 2) pe_int (fun _ _ => rfl)) (pg_sub (pv 5) (pv 4) set_list))
          (pss_one (ps_ret (pe_m1 PySem.F.slot_str_join PySem.F.type_str_join (mt_joinK K rfl) pe_str (pv 5))))))
        pss_nil)
      (pss_cons (ps_set (i := 6) sc_law_turned_at.nd rfl (Or.inl rfl) (pe_op op_add (pv 4) pe_int))
      (C8.pss_cut (ps_if (pt_cmpR op_eq (pv 6) (pe_callB call_len_str (by rfl) T.m_len (by decide +kernel) (pa_cons (pv 3) pa_nil)) (nomark _))
        (pss_cons (ps_set (i := 6) sc_law_turned_at.nd rfl (Or.inl rfl) pe_int)
          (pss_one (ps_if (PW.pt (pw_or (pt_cmpR op_eq (pv 1) pe_str (nomark _)) (pw_or1 (pt_cmpR op_lt (pe_callB call_len_str (by rfl) T.m_len (by decide +kernel) (pa_cons (pv 3) pa_nil)) pe_int (nomark _)))))
            (pss_one (ps_ret pe_non))
            pss_nil)))
        pss_nil)
      (pss_cons (ps_if (pt_cmpR op_ne (pe_ix ix_str (pv 3) (pv 6) (fun _ _ => rfl)) (pe_ix (ix_tupK K rfl) (pv 2) pe_int (fun _ _ => rfl)) (nomark _))
        (pss_one (ps_ret pe_non))
        pss_nil)
      (pss_cons (ps_set (i := 5) sc_law_turned_at.nd rfl (Or.inl rfl) (pe_callTy (call_listS rfl) (by rfl) T.m_list (by decide +kernel) (pa_cons (pv 3) pa_nil)))
      (pss_cons (ps_asg (pe_ix (ix_tupK K rfl) (pv 2) pe_int (fun _ _ => rfl)) (pg_sub (pv 5) (pv 4) set_list))
      (pss_cons (ps_asg (pe_ix (ix_tupK K rfl) (pv 2) pe_int (fun _ _ => rfl)) (pg_sub (pv 5) (pv 6) set_list))
      (pss_one (ps_ret (pe_m1 PySem.F.slot_str_join PySem.F.type_str_join (mt_joinK K rfl) pe_str (pv 5))))))))))))), ?_⟩
    have wl : (tx cs).length ≤ sizeLine := by
      rw [tx_len]
      exact Nat.le_trans hl (by decide)
    have ci : cs[i]? = some cs[i] := List.getElem?_eq_getElem hi
    have refl : Same H H := fun _ _ e => e
    have l1 := take_len i cs
    have ld : (cs.drop (i + 1)).length ≤ cs.length := by rw [List.length_drop]; omega
    cases R with
    | one x y g =>
      obtain ⟨v, hv, hg⟩ := hp
      refine ⟨.str (tx cs), rfl, .int (i : Int), rfl, tx cs, (i : Int), cs[i], rfl, rfl, wl, atI_nat ci, .ref p, rfl, p, _, 1, .str (sg x), rfl, rfl, .inl (.inl hv), atI_nat (j := 1) rfl, rfl, _, rfl, ?_⟩
      rw [sg_eq]
      by_cases ex : cs[i] = x
      · rw [decide_eq_true ex]
        refine ⟨.ref p, rfl, p, _, 0, .str "one", rfl, rfl, .inl (.inl hv), atI_nat (j := 0) rfl, rfl, _, rfl, iteT ?_⟩
        refine ⟨.ref p, rfl, p, _, 3, v, rfl, rfl, .inl (.inl hv), atI_nat (j := 3) rfl, .str (tx cs), rfl, .int (i : Int), rfl, v, g, z, sh, cs, i, rfl, hg, ok.2.2, hz, hc, hi, hl, fun H1 s1 => ⟨gOk cs i g, rfl, ?_⟩⟩
        by_cases hk : gOk cs i g = true
        · rw [hk]
          have w1 : (tx (cs.take i)).length + (sg y).length ≤ sizeLine := by
            rw [tx_len]
            exact Nat.le_of_lt (small1000 (show (cs.take i).length + 1 ≤ 1000 by omega))
          have w2 : (tx (cs.take i) ++ sg y).length + (tx (cs.drop (i + 1))).length ≤ sizeLine := by
            rw [show sg y = tx [y] from rfl, tx_app, tx_len, tx_len, List.length_append]
            exact Nat.le_of_lt (small1000 (show (cs.take i).length + 1 + (cs.drop (i + 1)).length ≤ 1000 by omega))
          refine ⟨.str (tx cs), rfl, .int (i : Int), rfl, (i : Int), rfl, tx cs, rfl, wl, .ref p, rfl, p, _, 2, .str (sg y), rfl, rfl, .inl (.inl (s1 _ _ hv)), atI_nat (j := 2) rfl, tx (cs.take i), sg y, by rw [cut_lo], rfl, w1, .str (tx cs), rfl, .int (i : Int), rfl, (i : Int), 1, rfl, rfl, (i : Int) + 1, rfl, tx cs, rfl, wl, tx (cs.take i) ++ sg y, tx (cs.drop (i + 1)), rfl, by rw [cut_hi], w2, ?_⟩
          rw [tx_set hi]
          have := q H1 s1
          have e : tAt z sh cs i (.one x y g) = some (cs.set i y) := by
            unfold tAt
            dsimp only
            rw [at_sign ci, decide_eq_true ex, hk]
            rfl
          rw [e] at this
          exact this
        · have hk : gOk cs i g = false := by simpa using hk
          rw [hk]
          have := q H1 s1
          have e : tAt z sh cs i (.one x y g) = none := by
            unfold tAt
            dsimp only
            rw [hk, Bool.and_false]
            rfl
          rw [e] at this
          exact this
      · rw [decide_eq_false ex]
        have := q H refl
        have e : tAt z sh cs i (.one x y g) = none := by
          unfold tAt
          dsimp only
          rw [at_sign ci, decide_eq_false ex, Bool.false_and]
          rfl
        rw [e] at this
        exact this
    | call x y im =>
      have hp : H p = some (.tup [.str "call", .str (sg x), .str (sg y), .str (tx im)]) := hp
      refine ⟨.str (tx cs), rfl, .int (i : Int), rfl, tx cs, (i : Int), cs[i], rfl, rfl, wl, atI_nat ci, .ref p, rfl, p, _, 1, .str (sg x), rfl, rfl, .inl (.inl hp), atI_nat (j := 1) rfl, rfl, _, rfl, ?_⟩
      rw [sg_eq]
      by_cases ex : cs[i] = x
      · rw [decide_eq_true ex]
        refine ⟨.ref p, rfl, p, _, 0, .str "call", rfl, rfl, .inl (.inl hp), atI_nat (j := 0) rfl, rfl, _, rfl, iteF ?_⟩
        refine ⟨.ref p, rfl, p, _, 0, .str "call", rfl, rfl, .inl (.inl hp), atI_nat (j := 0) rfl, rfl, _, rfl, iteT ?_⟩
        have him := ok.2.2.1
        have h5 := hz.five
        have il : (tx im).length ≤ sizeLine := by
          rw [tx_len, him]
          exact Nat.le_trans h5 (by decide)
        refine ⟨.str (tx cs), rfl, tx cs, rfl, fun D nD => ?_⟩
        refine lc_it walk_str (fun j H' => Same H H' ∧ H' D = some (.lst (vs_ ((cs.take j).map (imOf z im))))) ⟨same_new nD, upd_same⟩ (fun _ _ _ _ => trivial) (fun j v H1 H1' hj hW hY => ?_) (fun H1 hW => ?_)
        · obtain ⟨s1, e1⟩ := hW
          obtain ⟨rfl, c, hcc, rfl⟩ := hY
          have hcs : cs[j]? = some c := by
            rw [← hcc]
            simp
          have hcz := hc c (List.mem_of_getElem? hcs)
          obtain ⟨rest, eo⟩ := occ_sign hcz
          have hix : z.cps.toList.idxOf c < im.length := by
            rw [him]
            exact idx_lt hcz
          have em : im[z.cps.toList.idxOf c]? = some (imOf z im c) := by
            unfold imOf
            rw [List.getD_eq_getElem?_getD, List.getElem?_eq_getElem hix]
            rfl
          refine ⟨rfl, lcyes ?_⟩
          refine ⟨.ref p, rfl, p, _, 3, .str (tx im), rfl, rfl, .inl (.inl (s1 _ _ hp)), atI_nat (j := 3) rfl, .str z, rfl, ⟨_, rfl⟩, .str (sg c), rfl, z, sg c, _, rest, rfl, rfl, eo, tx im, _, imOf z im c, rfl, rfl, il, atI_nat em, _, e1, ?_, fun b ob eb => ?_, ?_⟩
          · rw [List.length_map, List.length_map]
            have := take_len j cs
            exact small1000 (by omega)
          · rw [upd_ne (ne_of_none eb nD)]
            exact s1 b ob eb
          · rw [upd_same, vs_snoc, List.take_add_one, hcs, List.map_append]
            rfl
        · obtain ⟨s1, e1⟩ := hW
          rw [List.take_of_length_le (by rw [List.size_toArray]; exact Nat.le_refl _)] at e1
          refine ⟨.ref p, rfl, p, _, 2, .str (sg y), rfl, rfl, .inl (.inl (s1 _ _ hp)), atI_nat (j := 2) rfl, .ref D, rfl, .int (i : Int), rfl, D, _, (i : Int), i, rfl, rfl, e1, ?_, ?_⟩
          · rw [List.length_map, List.length_map]
            exact ixN_of hi
          rw [vs_set]
          have hd : (upd H1 D (.lst (vs_ ((cs.map (imOf z im)).set i y)))) D = some (.lst (vs_ ((cs.map (imOf z im)).set i y))) := upd_same
          have s2 : Same H (upd H1 D (.lst (vs_ ((cs.map (imOf z im)).set i y)))) := fun b ob eb => by
            rw [upd_ne (ne_of_none eb nD)]
            exact s1 b ob eb
          obtain ⟨j1, j2⟩ := join_vs' (K := K) hd (by rw [List.length_set, List.length_map]; omega)
          refine ⟨⟨_, rfl⟩, .ref D, rfl, ⟨#[]⟩, D, _, rfl, rfl, j1, j2, ?_⟩
          rw [join_vs]
          have := q _ s2
          have e : tAt z sh cs i (.call x y im) = some ((cs.map (imOf z im)).set i y) := by
            unfold tAt
            dsimp only
            rw [at_sign ci, decide_eq_true ex]
            rfl
          rw [e] at this
          exact this
      · rw [decide_eq_false ex]
        have := q H refl
        have e : tAt z sh cs i (.call x y im) = none := by
          unfold tAt
          dsimp only
          rw [at_sign ci, decide_eq_false ex]
          rfl
        rw [e] at this
        exact this
    | two x y u v =>
      have hp : H p = some (.tup [.str "two", .str (sg x), .str (sg y), .str (sg u), .str (sg v)]) := hp
      refine ⟨.str (tx cs), rfl, .int (i : Int), rfl, tx cs, (i : Int), cs[i], rfl, rfl, wl, atI_nat ci, .ref p, rfl, p, _, 1, .str (sg x), rfl, rfl, .inl (.inl hp), atI_nat (j := 1) rfl, rfl, _, rfl, ?_⟩
      rw [sg_eq]
      by_cases ex : cs[i] = x
      · rw [decide_eq_true ex]
        refine ⟨.ref p, rfl, p, _, 0, .str "two", rfl, rfl, .inl (.inl hp), atI_nat (j := 0) rfl, rfl, _, rfl, iteF ?_⟩
        refine ⟨.ref p, rfl, p, _, 0, .str "two", rfl, rfl, .inl (.inl hp), atI_nat (j := 0) rfl, rfl, _, rfl, iteF ?_⟩
        refine ⟨.int (i : Int), rfl, (i : Int), 1, rfl, rfl, ?_⟩
        refine ⟨fun σ' H' => H' = H ∧ ∃ j, nb sh cs.length i = some j ∧ σ' = [some (.str z), some (.str sh), some (.ref p), some (.str (tx cs)), some (.int (i : Int)), none, some (.int (j : Int)), none], ?_, fun σ' H' hM => ?_⟩
        · refine ⟨.int ((i : Int) + 1), rfl, .str (tx cs), rfl, tx cs, rfl, wl, rfl, _, rfl, ?_⟩
          have eb : decide (V.int ((i : Int) + 1) = V.int ((tx cs).length : Int)) = decide (i + 1 = cs.length) := by
            rw [tx_len]
            by_cases h : i + 1 = cs.length
            · rw [decide_eq_true h, decide_eq_true]
              exact congrArg V.int (by omega)
            · rw [decide_eq_false h, decide_eq_false]
              intro z
              have := V.int.inj z
              omega
          rw [eb]
          by_cases h : i + 1 = cs.length
          · rw [decide_eq_true h]
            have nn : ∀ r, nb sh cs.length i = r → (if sh = "ring" ∧ 1 < cs.length then some 0 else none) = r := fun r hr => by
              unfold nb at hr
              rw [if_neg (by omega)] at hr
              exact hr
            refine ⟨.str sh, rfl, rfl, _, rfl, ?_⟩
            rw [str_eq]
            by_cases hs : sh = "row"
            · rw [decide_eq_true hs]
              have := q H refl
              have e : nb sh cs.length i = none := by
                unfold nb
                rw [if_neg (by omega), if_neg (by rw [hs]; rintro ⟨z, _⟩; exact absurd z (by decide))]
              have e2 : tAt z sh cs i (.two x y u v) = none := by
                unfold tAt
                dsimp only
                rw [e]
                rfl
              rw [e2] at this
              exact this
            · rw [decide_eq_false hs]
              refine ⟨.str (tx cs), rfl, tx cs, rfl, wl, _, 2, rfl, rfl, _, rfl, ?_⟩
              by_cases h2 : cs.length < 2
              · have e3 : decide (((tx cs).length : Int) < 2) = true := decide_eq_true (by rw [tx_len]; omega)
                rw [e3]
                have := q H refl
                have e : nb sh cs.length i = none := by
                  unfold nb
                  rw [if_neg (by omega), if_neg (by rintro ⟨_, z⟩; omega)]
                have e2 : tAt z sh cs i (.two x y u v) = none := by
                  unfold tAt
                  dsimp only
                  rw [e]
                  rfl
                rw [e2] at this
                exact this
              · have e3 : decide (((tx cs).length : Int) < 2) = false := decide_eq_false (by rw [tx_len]; omega)
                rw [e3]
                refine ⟨rfl, 0, ?_, rfl⟩
                unfold nb
                rw [if_neg (by omega), if_pos ⟨hsh.resolve_left hs, by omega⟩]
          · rw [decide_eq_false h]
            refine ⟨rfl, i + 1, ?_, rfl⟩
            unfold nb
            rw [if_pos (by omega)]
        · obtain ⟨rfl, j, ej, rfl⟩ := hM
          have hj := nb_lt hi ej
          have cj : cs[j]? = some cs[j] := List.getElem?_eq_getElem hj
          refine ⟨.str (tx cs), rfl, .int (j : Int), rfl, tx cs, (j : Int), cs[j], rfl, rfl, wl, atI_nat cj, .ref p, rfl, p, _, 2, .str (sg y), rfl, rfl, .inl (.inl hp), atI_nat (j := 2) rfl, rfl, _, rfl, ?_⟩
          rw [sg_eq]
          by_cases ey : cs[j] = y
          · rw [decide_eq_true ey]
            refine ⟨.str (tx cs), rfl, tx cs, rfl, wl, fun d nd => ?_⟩
            have sz : ∀ (ds : List Nat) (k : Nat), ds.length = cs.length → k < cs.length → ixN (vs_ ds).length (k : Int) = some k := fun ds k h1 h2 => by
              rw [List.length_map, h1]
              exact ixN_of h2
            have hp2 := (same_new (o := .lst (sgns (tx cs))) nd) _ _ hp
            refine ⟨.ref p, rfl, p, _, 3, .str (sg u), rfl, rfl, .inl (.inl hp2), atI_nat (j := 3) rfl, .ref d, rfl, .int (i : Int), rfl, d, vs_ cs, (i : Int), i, rfl, rfl, upd_same, sz cs _ rfl hi, ?_⟩
            have pd : p ≠ d := fun z => by
              rw [z, nd] at hp
              cases hp
            refine ⟨.ref p, rfl, p, _, 4, .str (sg v), rfl, rfl, .inl (.inl (by rw [upd_ne pd]; exact hp2)), atI_nat (j := 4) rfl, .ref d, rfl, .int (j : Int), rfl, d, (vs_ cs).set i (.str (sg u)), (j : Int), j, rfl, rfl, upd_same, by rw [vs_set]; exact sz _ _ (List.length_set ..) hj, ?_⟩
            rw [vs_set, vs_set]
            have hd : (upd (upd (upd H' d (.lst (sgns (tx cs)))) d (.lst (vs_ (cs.set i u)))) d (.lst (vs_ ((cs.set i u).set j v)))) d = some (.lst (vs_ ((cs.set i u).set j v))) := upd_same
            have hs : Same H' (upd (upd (upd H' d (.lst (sgns (tx cs)))) d (.lst (vs_ (cs.set i u)))) d (.lst (vs_ ((cs.set i u).set j v)))) := fun b o e => by
              have := ne_of_none e nd
              rw [upd_ne this, upd_ne this, upd_ne this]
              exact e
            generalize upd (upd (upd H' d (.lst (sgns (tx cs)))) d (.lst (vs_ (cs.set i u)))) d (.lst (vs_ ((cs.set i u).set j v))) = H3 at hd hs
            obtain ⟨j1, j2⟩ := join_vs' (K := K) hd (by rw [List.length_set, List.length_set]; omega)
            refine ⟨⟨_, rfl⟩, .ref d, rfl, ⟨#[]⟩, d, _, rfl, rfl, j1, j2, ?_⟩
            rw [join_vs]
            have := q _ hs
            have e : tAt z sh cs i (.two x y u v) = some ((cs.set i u).set j v) := by
              unfold tAt
              dsimp only
              rw [ej]
              show (if _ = true then _ else _) = _
              rw [at_sign ci, at_sign cj, decide_eq_true ex, decide_eq_true ey]
              rfl
            rw [e] at this
            exact this
          · rw [decide_eq_false ey]
            have := q _ refl
            have e : tAt z sh cs i (.two x y u v) = none := by
              unfold tAt
              dsimp only
              rw [ej]
              show (if _ = true then _ else _) = _
              rw [at_sign ci, at_sign cj, decide_eq_false ey, Bool.and_false]
              rfl
            rw [e] at this
            exact this
      · rw [decide_eq_false ex]
        have := q H refl
        have e : tAt z sh cs i (.two x y u v) = none := by
          unfold tAt
          dsimp only
          cases nb sh cs.length i with
          | none => rfl
          | some j =>
            show (if _ = true then _ else _) = _
            rw [at_sign ci, decide_eq_false ex, Bool.false_and]
            rfl
        rw [e] at this
        exact this
end
end LH

namespace LH
open PySem PySem.Spec PyProof.Rows L2
/-! ### pairs of which nothing is told, keys that are texts -/
def PrAt (H : Hp) (as : List Addr) : Prop := ∀ a ∈ as, ∃ (n : Int) (t : Str), H a = some (.tup [.int n, .str t])
theorem PrAt.mono {H H' : Hp} {as : List Addr} (t : Tups H H') (h : PrAt H as) : PrAt H' as := fun a ha => let ⟨n, s, e⟩ := h a ha; ⟨n, s, t _ _ e⟩
theorem PrAt.app {H : Hp} {as bs : List Addr} (h : PrAt H as) (k : PrAt H bs) : PrAt H (as ++ bs) := fun a ha => (List.mem_append.mp ha).elim (h a) (k a)
theorem keys_put {kvs : List (Key × V)} {ks : List Str} {t : Str} {v : V} (h : kvs.map (·.1) = ks.map Sum.inr) : ∃ ks' : List Str, (putK kvs (Sum.inr t : Key) v).map (·.1) = ks'.map Sum.inr ∧ ks'.length ≤ ks.length + 1 := by
  unfold putK
  split
  · refine ⟨ks, ?_, Nat.le_succ _⟩
    rw [← h, List.map_map]
    refine List.map_congr_left fun kv _ => ?_
    show (if kv.1 = _ then _ else _ : Key × V).1 = kv.1
    split <;> rfl
  · refine ⟨ks ++ [t], ?_, ?_⟩
    · rw [List.map_append, h, List.map_append]
      rfl
    · rw [List.length_append]
      exact Nat.le_refl _
theorem dpAll_vi {K : PySem.W.Frag} {H : Hp} : ∀ ns : List Nat, DpAll K H (vi ns) (ns.map fun (n : Nat) => PyData.int (n : Int))
  | [] => .nil
  | n :: r => .cons (.int _) (dpAll_vi r)
theorem shaped_vi (ns : List Nat) : SeqAt.shaped (.list (ns.map fun (n : Nat) => PyData.int (n : Int))) = true := by
  have all : PyData.canLayAll0 (ns.map fun (n : Nat) => PyData.int (n : Int)) = true ∧ PyData.depthAll (ns.map fun (n : Nat) => PyData.int (n : Int)) = 0 := by
    induction ns with
    | nil => exact ⟨rfl, rfl⟩
    | cons n r ih =>
      refine ⟨?_, ?_⟩
      · show (true && PyData.canLayAll0 (r.map fun (n : Nat) => PyData.int (n : Int))) = true
        rw [ih.1]
        rfl
      · show max 0 (PyData.depthAll (r.map fun (n : Nat) => PyData.int (n : Int))) = 0
        rw [ih.2]
        rfl
  unfold SeqAt.shaped
  rw [Bool.and_eq_true]
  refine ⟨all.1, decide_eq_true ?_⟩
  show PyData.depthAll (ns.map fun (n : Nat) => PyData.int (n : Int)) + 1 ≤ 64
  omega
theorem eqv_vi (ns : List Nat) : PyData.eqv (.list (ns.map fun (n : Nat) => PyData.int (n : Int))) (.list []) = decide (ns = []) := by
  cases ns with
  | nil => rfl
  | cons c r => rfl
theorem inV_strs (zs : List Str) (o : Str) : inV (.str o) (zs.map V.str) = decide (o ∈ zs) := by
  unfold inV
  rw [List.any_map]
  by_cases h : o ∈ zs
  · rw [decide_eq_true h, List.any_eq_true]
    exact ⟨o, h, by show (o == o) = true; exact beq_self_eq_true o⟩
  · rw [decide_eq_false h, Bool.eq_false_iff]
    intro z
    obtain ⟨x, hx, e⟩ := List.any_eq_true.mp z
    have e : (x == o) = true := e
    exact h ((eq_of_beq e) ▸ hx)
theorem flat_strs (zs : List Str) : (zs.map V.str).all flatV = true := by
  rw [List.all_map, List.all_eq_true]
  intro x _
  rfl
theorem come_plc {z sh : Str} {cs : List Nat} {R : Rul} {zs : List Str} (co : Comes (aAll z sh cs R) zs) (o : Str) : o ∈ zs ↔ ¬ plc (mAll z sh cs R) o = [] := by
  rw [plc_nil, Classical.not_not, co.1.mem_iff, mem_tAll, ← mAll_snd, List.mem_map]
  constructor
  · rintro ⟨w, hw, e⟩
    obtain ⟨m, hm, rfl⟩ := List.mem_map.mp hw
    exact ⟨m, hm, e⟩
  · rintro ⟨m, hm, e⟩
    exact ⟨m.2, List.mem_map.mpr ⟨m, hm, rfl⟩, e⟩
section
variable {P : Program} {w : World} {K : PySem.W.Frag} {mg : Str → Option Value} {base : Heap}
/-! ### _law_word -/
def sp_law_word : Sp := fun vs H Q _ => ∃ (r : Addr) (z : Str) (k : Nat), vs = [.ref r, .str z] ∧ RowAt H r k ∧ k ≤ 900000 ∧ IsLet z ∧ ∀ H' cs, Off r H H' → RowAt H' r (k + 50) → cs.length ≤ 40 → (∀ c ∈ cs, c ∈ z.cps.toList) → Q (.str (tx cs)) H'
theorem ok_law_word (T : TX K mg) : FnOk P w K mg base CX0 2 T.a_law_word T.fd_law_word ["deck", "letters"] sp_law_word := by
  have G_law_take : FnOk P w K mg base CX0 1 T.a_law_take T.fd_law_take ["deck", "many"] sp_law_take := ok_law_take T
  refine T.F_law_word.ok sc_law_word (fun vs H Q E h => ?_) (fun cdv A outer s H vs Q E hr h => ?_)
  · obtain ⟨r, z, k, rfl, _⟩ := h
    rfl
  · obtain ⟨r, z, k, rfl, hR, hk, hz, q⟩ := h
    refine ⟨_, (pss_cons (ps_set (i := 2) sc_law_word.nd rfl (Or.inl rfl) pe_str)
      (pss_cons (ps_for PassesOwn.never rfl (pi_range1 (by rfl) T.m_range (pa_cons (pe_op op_add pe_int (pe_call G_law_take (hr.mono (by decide)) (by rfl) T.g_law_take T.F_law_take.kp T.b_law_take .nil pass0 (pa_cons (pv 0) (pa_cons (pe_ix (ix_listK K rfl) (pe_lst (pa_cons pe_int (pa_cons pe_int pa_nil))) (pe_callTy call_int1 (by rfl) T.m_int (by decide +kernel) (pa_cons (pe_cmpR op_eq (pe_call G_law_take (hr.mono (by decide)) (by rfl) T.g_law_take T.F_law_take.kp T.b_law_take .nil pass0 (pa_cons (pv 0) (pa_cons pe_int pa_nil))) pe_int (nomark _)) pa_nil)) (fun _ _ => rfl)) pa_nil)))) pa_nil)) (pg_name (i := 3) sc_law_word.nd rfl (Or.inl rfl))
        (pss_one (ps_set (i := 2) sc_law_word.nd rfl (Or.inl rfl) (pe_op op_add_str (pv 2) (pe_ix ix_str (pv 1) (pe_call G_law_take (hr.mono (by decide)) (by rfl) T.g_law_take T.F_law_take.kp T.b_law_take .nil pass0 (pa_cons (pv 0) (pa_cons (pe_callB call_len_str (by rfl) T.m_len (by decide +kernel) (pa_cons (pv 1) pa_nil)) pa_nil))) (fun _ _ => rfl))))))
      (pss_one (ps_ret (pv 2))))), ?_⟩
    have h1 := hz.one
    have h5 := hz.five
    have zs : z.length ≤ sizeLine := Nat.le_trans h5 (by decide)
    refine ⟨.ref r, rfl, by show 2 ≤ sizeLine; decide, fun p1 n1 => ?_⟩
    have rp : p1 ≠ r := (hR.ne n1).symm
    refine ⟨.ref r, rfl, r, 4, k, rfl, hR.new n1, by omega, by decide, by decide, fun H1 g o1 R1 _ _ => ⟨rfl, .inr ⟨_, rfl, ?_⟩⟩⟩
    have e1 := o1 _ _ rp (upd_same (H := H) (o := .lst [.int 12, .int 40]))
    obtain ⟨m, em, m0, m1⟩ : ∃ m : Int, atI [V.int 12, V.int 40] (if decide (V.int g = V.int 0) = true then (1 : Int) else 0) = some (.int m) ∧ 0 < m ∧ m ≤ 40 := by
      by_cases hg : V.int g = V.int 0
      · rw [decide_eq_true hg]
        exact ⟨40, rfl, by decide, by decide⟩
      · rw [decide_eq_false hg]
        exact ⟨12, rfl, by decide, by decide⟩
    refine ⟨p1, _, _, .int m, rfl, rfl, .inl (.inl e1), em, r, m, k + 1, rfl, R1, by omega, m0, by omega, fun H2 g2 o2 R2 a0 a1 => ⟨1, g2, rfl, rfl, 1 + g2, rfl, by omega, by omega, ?_⟩⟩
    have off2 : Off r H H2 := ((Off.new n1).trans o1).trans o2
    refine for_it (walk_range (lo := 0) (n := (1 + g2).toNat)) (fun i σ H' => Off r H H' ∧ RowAt H' r (k + 2 + i) ∧ ∃ (cs : List Nat) (y3 : Option V), cs.length = i ∧ (∀ c ∈ cs, c ∈ z.cps.toList) ∧ σ = [some (.ref r), some (.str z), some (.str (tx cs)), y3]) ⟨off2, R2, [], none, rfl, (fun _ h => nomatch h), rfl⟩ (fun _ _ _ _ _ => trivial) (fun i v σ H3 H3' hi hW hY => ?_) (fun σ H3 hW => ?_)
    · obtain ⟨o3, R3, cs, y3, l3, c3, rfl⟩ := hW
      obtain ⟨rfl, rfl⟩ := hY
      have hi : i < 41 := by omega
      refine ⟨.str (tx cs), rfl, .str z, rfl, .ref r, rfl, .str z, rfl, z, rfl, zs, r, (z.length : Int), k + 2 + i, rfl, R3, by omega, by omega, by omega, fun H4 m4 o4 R4 b0 b1 => ?_⟩
      obtain ⟨j, hj⟩ : ∃ j : Nat, m4 = (j : Int) := ⟨m4.toNat, by omega⟩
      obtain ⟨c, hc, ec⟩ := sign_drawn (z := z) (k := j) (by omega) hj
      refine ⟨z, m4, c, rfl, rfl, zs, ec, tx cs, sg c, rfl, rfl, ?_, ?_⟩
      · rw [tx_len]
        exact Nat.le_of_lt (small1000 (show cs.length + 1 ≤ 1000 by omega))
      · rw [show sg c = tx [c] from rfl, tx_app]
        exact ⟨o3.trans o4, R4, cs ++ [c], _, by rw [List.length_append, l3]; rfl, mem_snoc c3 hc, rfl⟩
    · obtain ⟨o3, R3, cs, y3, l3, c3, rfl⟩ := hW
      exact ⟨.str (tx cs), rfl, q _ cs o3 (R3.le (by omega)) (by omega) c3⟩
/-! ### _law_steps -/
def sp_law_steps : Sp := fun vs H Q _ => ∃ (a : Addr) (W : Wd) (cs : List Nat), vs = [.ref a, .str (tx cs)] ∧ WdAt H a W ∧ WdK W ∧ cs.length ≤ 40 ∧ (∀ c ∈ cs, c ∈ W.z.cps.toList) ∧ ∀ H' l as, Same H H' → H l = none → H' l = some (.lst (vr as)) → as.length ≤ 320 → PrAt H' as → Q (.ref l) H'
theorem ok_law_steps (T : TX K mg) : FnOk P w K mg base CX0 3 T.a_law_steps T.fd_law_steps ["world", "word"] sp_law_steps := by
  have G_law_turned_at : FnOk P w K mg base CX0 2 T.a_law_turned_at T.fd_law_turned_at ["letters", "shape", "rule", "word", "place"] sp_law_turned_at := ok_law_turned_at T
  refine T.F_law_steps.ok sc_law_steps (fun vs H Q E h => ?_) (fun cdv A outer s H vs Q E hr h => ?_)
  · obtain ⟨a, W, cs, rfl, _⟩ := h
    rfl
  · obtain ⟨a, W, cs, rfl, ⟨r, ps, e1, e2, l1, rl⟩, ok, hl, hc, q⟩ := h
    refine ⟨_, (pss_cons (ps_set (i := 2) sc_law_steps.nd rfl (Or.inl rfl) (pe_lst pa_nil))
      (pss_cons (ps_for PassesOwn.never rfl (pi_range1 (by rfl) T.m_range (pa_cons (pe_callB (call_lenK K rfl) (by rfl) T.m_len (by decide +kernel) (pa_cons (pe_ix (ix_tupK K rfl) (pv 0) pe_int (fun _ _ => rfl)) pa_nil)) pa_nil)) (pg_name (i := 3) sc_law_steps.nd rfl (Or.inr rfl))
        (pss_cons (ps_set (i := 4) sc_law_steps.nd rfl (Or.inl rfl) pe_dnewK)
          (pss_cons (ps_for PassesOwn.never rfl (pi_range1 (by rfl) T.m_range (pa_cons (pe_callB call_len_str (by rfl) T.m_len (by decide +kernel) (pa_cons (pv 1) pa_nil)) pa_nil)) (pg_name (i := 5) sc_law_steps.nd rfl (Or.inl rfl))
            (pss_cons (ps_set (i := 6) sc_law_steps.nd rfl (Or.inl rfl) (pe_call G_law_turned_at (hr.mono (by decide)) (by rfl) T.g_law_turned_at T.F_law_turned_at.kp T.b_law_turned_at .nil pass0 (pa_cons (pe_ix (ix_tupK K rfl) (pv 0) pe_int (fun _ _ => rfl)) (pa_cons (pe_ix (ix_tupK K rfl) (pv 0) pe_int (fun _ _ => rfl)) (pa_cons (pe_ix (ix_tupK K rfl) (pe_ix (ix_tupK K rfl) (pv 0) pe_int (fun _ _ => rfl)) (pv 3) (fun _ _ => rfl)) (pa_cons (pv 1) (pa_cons (pv 5) pa_nil)))))))
              (pss_one (ps_if (pt_cmpR op_notN (pv 6) pe_non (nomark _))
                (pss_one (ps_dput (hu_of hr) (pv 4) (pv 6) pe_bl rfl))
                pss_nil))))
          (pss_one (ps_expr (pe_bmK K rfl PySem.F.plainAttrs_list PySem.F.slot_list_extend PySem.F.type_list_extend mt_extend (pv 2) (pa_cons (pe_lc (own := [("other", 6)]) (g := gName 6) (tt := tYes) (by rfl) sc_law_steps.nd (pi_listK K rfl (pe_callB (call_sortedD rfl) (by rfl) T.m_sorted (by decide +kernel) (pa_cons (pv 4) pa_nil))) (blkOk_by (own := [("other", 6)]) (N := N_law_steps) (by kernel_rfl)) (fun _ _ _ _ _ => (pg_name (i := 6) sc_law_steps.nd rfl (Or.inl rfl))) (fun _ _ _ _ _ => pts_nil) (fun _ _ _ _ _ => (pe_tup (pa_cons (pv 3) (pa_cons (pv 6) pa_nil))))) pa_nil)))))))
      (pss_one (ps_ret (pv 2))))), ?_⟩
    have hm := ok.many
    have wl : (tx cs).length ≤ sizeLine := by
      rw [tx_len]
      exact Nat.le_trans hl (by decide)
    refine ⟨by show 0 ≤ sizeLine; decide, fun F nF => ?_⟩
    have a1 := same_new (o := .lst []) nF a _ e1
    have a2 := same_new (o := .lst []) nF r _ e2
    have pl : (vr ps).length = W.rs.length := by rw [List.length_map]; exact l1
    refine ⟨.ref a, rfl, a, _, 2, .ref r, rfl, rfl, .inl (.inl a1), atI_nat (j := 2) rfl, r, vr ps, rfl, .inr (.inl (.inl a2)), ((vr ps).length : Int), rfl, by rw [pl]; omega, by rw [pl]; omega, ?_⟩
    have en : ((vr ps).length : Int).toNat = W.rs.length := by rw [pl]; omega
    refine for_it (walk_range (lo := 0) (n := ((vr ps).length : Int).toNat)) (fun i σ H' => Same H H' ∧ (∃ as, H' F = some (.lst (vr as)) ∧ as.length ≤ 40 * i ∧ PrAt H' as) ∧ ∃ y3 y4 y5 y6, σ = [some (.ref a), some (.str (tx cs)), some (.ref F), y3, y4, y5, y6]) ⟨same_new nF, ⟨[], upd_same, Nat.zero_le _, fun _ h => nomatch h⟩, none, none, none, none, rfl⟩ (fun _ _ _ _ _ => trivial) (fun i v σ H1 H1' hi hW hY => ?_) (fun σ H1 hW => ?_)
    · obtain ⟨s1, ⟨as, f1, la, pr⟩, y3, y4, y5, y6, rfl⟩ := hW
      obtain ⟨rfl, rfl⟩ := hY
      rw [en] at hi
      have k0 : (0 : Int) + (i : Int) = (i : Int) := Int.zero_add _
      obtain ⟨R, hR⟩ : ∃ R, W.rs[i]? = some R := ⟨_, List.getElem?_eq_getElem hi⟩
      obtain ⟨p, hp⟩ : ∃ p, ps[i]? = some p := ⟨_, List.getElem?_eq_getElem (by rw [l1]; exact hi)⟩
      have hv : (vr ps)[i]? = some (.ref p) := by rw [List.getElem?_map, hp]; rfl
      refine fun d nd => ?_
      have Fd : F ≠ d := ne_of_none f1 nd
      have fd : H d = none := Same.free s1 nd
      refine ⟨.str (tx cs), rfl, tx cs, rfl, wl, ((tx cs).length : Int), rfl, by rw [tx_len]; omega, by rw [tx_len]; omega, ?_⟩
      have ew : ((tx cs).length : Int).toNat = cs.length := by rw [tx_len]; omega
      refine for_it (walk_range (lo := 0) (n := ((tx cs).length : Int).toNat)) (fun j σ H' => Same H H' ∧ H' F = some (.lst (vr as)) ∧ PrAt H' as ∧ (∃ (kvs : List (Key × V)) (ks : List Str), H' d = some (.dK kvs) ∧ kvs.map (·.1) = ks.map Sum.inr ∧ ks.length ≤ j) ∧ ∃ y5 y6, σ = [some (.ref a), some (.str (tx cs)), some (.ref F), some (.int (0 + (i : Int))), some (.ref d), y5, y6]) ⟨s1.trans (same_new nd), (same_new nd) _ _ f1, pr.mono (Tups.new nd), ⟨[], [], upd_same, rfl, Nat.le_refl _⟩, _, _, rfl⟩ (fun _ _ _ _ _ => trivial) (fun j v σ H2 H2' hj hW hY => ?_) (fun σ H2 hW => ?_)
      · obtain ⟨s2, f2, pr2, ⟨kvs, ks, d2, ek, lk⟩, y5, y6, rfl⟩ := hW
        obtain ⟨rfl, rfl⟩ := hY
        rw [ew] at hj
        refine ⟨.ref a, rfl, a, _, 0, .str W.z, rfl, rfl, .inl (.inl (s2 _ _ e1)), atI_nat (j := 0) rfl, .ref a, rfl, a, _, 1, .str W.sh, rfl, rfl, .inl (.inl (s2 _ _ e1)), atI_nat (j := 1) rfl, .ref a, rfl, a, _, 2, .ref r, rfl, rfl, .inl (.inl (s2 _ _ e1)), atI_nat (j := 2) rfl, .int (0 + (i : Int)), rfl, r, vr ps, 0 + (i : Int), .ref p, rfl, rfl, .inl (.inl (s2 _ _ e2)), by rw [k0]; exact atI_nat hv, .str (tx cs), rfl, .int (0 + (j : Int)), rfl, W.z, W.sh, p, R, cs, j, by rw [Int.zero_add]; rfl, (rl i p R hp hR).mono (Tups.same s2), ok.rs R (List.mem_of_getElem? hR), ok.let_, ok.sh, hc, hj, by omega, fun H3 s3 => ?_⟩
        have f3 := s3 _ _ f2
        have d3 := s3 _ _ d2
        have pr3 := pr2.mono (Tups.same s3)
        cases ht : tAt W.z W.sh cs j R with
        | none =>
          refine ⟨.non, rfl, rfl, _, rfl, iteF ?_⟩
          exact ⟨s2.trans s3, f3, pr3, ⟨kvs, ks, d3, ek, Nat.le_succ_of_le lk⟩, _, _, rfl⟩
        | some wd =>
          refine ⟨.str (tx wd), rfl, rfl, _, rfl, iteT ?_⟩
          obtain ⟨ks', ek', lk'⟩ := keys_put (t := tx wd) (v := V.bl true) ek
          have kl : kvs.length = ks.length := by
            have := congrArg List.length ek
            rwa [List.length_map, List.length_map] at this
          refine ⟨.ref d, rfl, .str (tx wd), rfl, d, _, rfl, DPut.k (k := Sum.inr (tx wd)) d3 (small1000 (by omega)), fun b ob eb => ?_, ?_, ?_, ⟨_, ks', upd_same, ek', by omega⟩, _, _, rfl⟩
          · rw [upd_ne (ne_of_none eb fd)]
            exact s3 _ _ (s2 b ob eb)
          · rw [upd_ne Fd]
            exact f3
          · exact pr3.mono fun b xs eb => by
              rw [upd_ne (fun z => by rw [z, d3] at eb; cases eb)]
              exact eb
      · obtain ⟨s2, f2, pr2, ⟨kvs, ks, d2, ek, lk⟩, y5, y6, rfl⟩ := hW
        rw [ew] at lk
        refine ⟨.ref F, rfl, .inl ⟨rfl, _, .inl (.inl f2)⟩, .ref d, rfl, d, kvs, ks, rfl, .inl d2, ek, by omega, fun ys p2 pm srt n2 => ⟨p2, rfl, ⟨_, .inl (.inl upd_same)⟩, fun D nD => ?_⟩⟩
        have yl : ys.length ≤ 40 := by rw [pm.length_eq]; omega
        have sp : Same H2 (upd H2 p2 (.lst (ys.map V.str))) := same_new n2
        have ey : (upd H2 p2 (.lst (ys.map V.str))) p2 = some (.lst (ys.map V.str)) := upd_same
        generalize upd H2 p2 (.lst (ys.map V.str)) = H3 at sp ey nD
        have fD : H2 D = none := Same.free sp nD
        have FD : F ≠ D := ne_of_none (sp _ _ f2) nD
        have pD : p2 ≠ D := ne_of_none ey nD
        refine lc_it (walk_list (K := K) (a := p2) (xs := ys.map V.str)) (fun j H' => Same H2 H' ∧ H' p2 = some (.lst (ys.map V.str)) ∧ ∃ bs, H' D = some (.lst (vr bs)) ∧ bs.length = j ∧ PrAt H' bs) ⟨sp.trans (same_new nD), (same_new nD) _ _ ey, [], upd_same, rfl, fun _ h => nomatch h⟩ (fun j H' _ hP => .inl (.inl hP.2.1)) (fun j x H4 H4' hj hW hY => ?_) (fun H4 hW => ?_)
        · obtain ⟨s4, y4', bs, d4, lb, pb⟩ := hW
          obtain ⟨rfl, hx⟩ := hY
          obtain ⟨y, hy, rfl⟩ := str_at hx
          rw [List.length_map] at hj
          refine ⟨rfl, lcyes ?_⟩
          refine ⟨.int (0 + (i : Int)), rfl, .str y, rfl, by show 2 ≤ sizeLine; decide, fun t nt => ?_⟩
          have d5 := (same_new (o := .tup [.int (0 + (i : Int)), .str y]) nt) _ _ d4
          refine ⟨vr bs, d5, by rw [List.length_map]; exact small1000 (by omega), fun b ob eb => ?_, ?_, bs ++ [t], ?_, by rw [List.length_append, lb]; rfl, ?_⟩
          · rw [upd_ne (ne_of_none eb fD)]
            exact (same_new nt) _ _ (s4 b ob eb)
          · rw [upd_ne pD]
            exact (same_new nt) _ _ y4'
          · rw [upd_same, vr_snoc]
          · refine ((pb.mono (Tups.new nt)).app ?_).mono (Tups.lst d5)
            intro b hb
            rw [List.mem_singleton.mp hb]
            exact ⟨_, _, upd_same⟩
        · obtain ⟨s4, y4', bs, d4, lb, pb⟩ := hW
          rw [List.length_map] at lb
          have f4 := s4 _ _ f2
          refine ⟨F, D, vr as, vr bs, rfl, rfl, f4, d4, ?_, fun b ob eb => ?_, ⟨as ++ bs, ?_, ?_, ?_⟩, _, _, _, _, rfl⟩
          · rw [List.length_map, List.length_map]
            exact Nat.le_of_lt (small1000 (by omega))
          · rw [upd_ne (ne_of_none eb nF)]
            exact s4 _ _ (s2 b ob eb)
          · rw [upd_same]
            show some (HO.lst (as.map V.ref ++ bs.map V.ref)) = some (HO.lst ((as ++ bs).map V.ref))
            rw [List.map_append]
          · rw [List.length_append]
            omega
          · exact ((pr2.mono (Tups.same s4)).app pb).mono (Tups.lst f4)
    · obtain ⟨s1, ⟨as, f1, la, pr⟩, y3, y4, y5, y6, rfl⟩ := hW
      rw [en] at la
      exact ⟨.ref F, rfl, q _ F as s1 nF f1 (by omega) pr⟩
/-! ### _law_right -/
def sp_law_right : Sp := fun vs H Q _ => ∃ (a : Addr) (W : Wd) (i : Nat) (R : Rul) (cs : List Nat) (o : Str), vs = [.ref a, .int (i : Int), .str (tx cs), .str o] ∧ WdAt H a W ∧ WdK W ∧ W.rs[i]? = some R ∧ cs.length ≤ 100 ∧ (∀ c ∈ cs, c ∈ W.z.cps.toList) ∧ ∀ H', Same H H' → Q (.bl true) H'
theorem ok_law_right (T : TX K mg) : FnOk P w K mg base CX0 5 T.a_law_right T.fd_law_right ["world", "number", "word", "other"] sp_law_right := by
  have G_law_turned_at : FnOk P w K mg base CX0 2 T.a_law_turned_at T.fd_law_turned_at ["letters", "shape", "rule", "word", "place"] sp_law_turned_at := ok_law_turned_at T
  have G_places_of : FnOk P w K mg base CX0 4 T.a_places_of T.fd_places_of ["world", "number", "word", "other"] sp_places_of := ok_places_of T
  have G_after : FnOk P w K mg base CX0 4 T.a_after T.fd_after ["letters", "shape", "rule", "word"] sp_after := ok_after T
  refine T.F_law_right.ok sc_law_right (fun vs H Q E h => ?_) (fun cdv A outer s H vs Q E hr h => ?_)
  · obtain ⟨a, W, i, R, cs, o, rfl, _⟩ := h
    rfl
  · obtain ⟨a, W, i, R, cs, o, rfl, hW, ok, hR, hl, hc, q⟩ := h
    refine ⟨_, (pss_cons (ps_set (i := 4) sc_law_right.nd rfl (Or.inl rfl) (pe_ix (ix_tupK K rfl) (pe_ix (ix_tupK K rfl) (pv 0) pe_int (fun _ _ => rfl)) (pv 1) (fun _ _ => rfl)))
      (pss_cons (ps_set (i := 5) sc_law_right.nd rfl (Or.inl rfl) (pe_lst pa_nil))
      (pss_cons (ps_for PassesOwn.never rfl (pi_range1 (by rfl) T.m_range (pa_cons (pe_callB call_len_str (by rfl) T.m_len (by decide +kernel) (pa_cons (pv 2) pa_nil)) pa_nil)) (pg_name (i := 6) sc_law_right.nd rfl (Or.inl rfl))
        (pss_one (ps_if (pt_cmpR op_eq (pe_call G_law_turned_at (hr.mono (by decide)) (by rfl) T.g_law_turned_at T.F_law_turned_at.kp T.b_law_turned_at .nil pass0 (pa_cons (pe_ix (ix_tupK K rfl) (pv 0) pe_int (fun _ _ => rfl)) (pa_cons (pe_ix (ix_tupK K rfl) (pv 0) pe_int (fun _ _ => rfl)) (pa_cons (pv 4) (pa_cons (pv 2) (pa_cons (pv 6) pa_nil)))))) (pv 3) (nomark _))
            (pss_one (ps_expr (pe_bmK K rfl PySem.F.plainAttrs_list PySem.F.slot_list_append PySem.F.type_list_append mt_append (pv 5) (pa_cons (pv 6) pa_nil))))
            pss_nil)))
      (pss_cons (ps_set (i := 7) sc_law_right.nd rfl (Or.inl rfl) (pe_call G_places_of (hr.mono (by decide)) (by rfl) T.g_places_of T.F_places_of.kp T.b_places_of .nil pass0 (pa_cons (pv 0) (pa_cons (pv 1) (pa_cons (pv 2) (pa_cons (pv 3) pa_nil))))))
      (pss_cons (ps_if (PW.pt (pw_or (pt_not (pt_val (pe_callB (call_isiK K rfl) (by rfl) T.m_isinstance (by decide +kernel) (pa_cons (pv 7) (pa_cons (pe_bltn (v := .ty "list") (by rfl) T.m_list (by decide +kernel) rfl) pa_nil))))) (pw_or1 (pt_cmpR (op_neDK K rfl hr.units) (pv 7) (pv 5) (nomark _)))))
        (pss_one (ps_ret pe_bl))
        pss_nil)
      (pss_cons (ps_if (pt_cmpR (op_neDK K rfl hr.units) (pe_lc (own := [("spot", 8)]) (g := gName 8) (by rfl) sc_law_right.nd (pi_listK K rfl (pv 7)) (blkOk_by (own := [("spot", 8)]) (N := N_law_right) (by kernel_rfl)) (fun _ _ _ _ _ => (pg_name (i := 8) sc_law_right.nd rfl (Or.inl rfl))) (fun _ _ _ _ _ => (pts_one (pt_val (pe_callB (call_isiK K rfl) (by rfl) T.m_isinstance (by decide +kernel) (pa_cons (pv 8) (pa_cons (pe_bltn (v := .ty "bool") (by rfl) T.m_bool (by decide +kernel) rfl) pa_nil)))))) (fun _ _ _ _ _ => (pv 8))) (pe_lst pa_nil) (nomark _))
        (pss_one (ps_ret pe_bl))
        pss_nil)
      (pss_cons (ps_expr (pe_bmK K rfl PySem.F.plainAttrs_list PySem.F.slot_list_append PySem.F.type_list_append mt_append (pv 7) (pa_cons pe_int pa_nil)))
      (pss_cons (ps_if (pt_cmpR (op_neDK K rfl hr.units) (pe_call G_places_of (hr.mono (by decide)) (by rfl) T.g_places_of T.F_places_of.kp T.b_places_of .nil pass0 (pa_cons (pv 0) (pa_cons (pv 1) (pa_cons (pv 2) (pa_cons (pv 3) pa_nil))))) (pv 5) (nomark _))
        (pss_one (ps_ret pe_bl))
        pss_nil)
      (pss_one (ps_ret (pe_cmpR op_eq (pe_cmpR (op_in_seqK K rfl) (pv 3) (pe_call G_after (hr.mono (by decide)) (by rfl) T.g_after T.F_after.kp T.b_after .nil pass0 (pa_cons (pe_ix (ix_tupK K rfl) (pv 0) pe_int (fun _ _ => rfl)) (pa_cons (pe_ix (ix_tupK K rfl) (pv 0) pe_int (fun _ _ => rfl)) (pa_cons (pv 4) (pa_cons (pv 2) pa_nil))))) (by rfl)) (pe_cmpR (op_neDK K rfl hr.units) (pv 5) (pe_lst pa_nil) (nomark _)) (nomark _)))))))))))), ?_⟩
    have hW0 := hW
    obtain ⟨r, ps, e1, e2, l1, rl⟩ := hW
    have h5 := ok.let_.five
    have hi : i < W.rs.length := (List.getElem?_eq_some_iff.mp hR).1
    obtain ⟨p, hp⟩ : ∃ p, ps[i]? = some p := ⟨_, List.getElem?_eq_getElem (by rw [l1]; exact hi)⟩
    have hv : (vr ps)[i]? = some (.ref p) := by rw [List.getElem?_map, hp]; rfl
    have wl : (tx cs).length ≤ sizeLine := by
      rw [tx_len]
      exact Nat.le_trans hl (by decide)
    have rok := ok.rs R (List.mem_of_getElem? hR)
    refine ⟨.ref a, rfl, a, _, 2, .ref r, rfl, rfl, .inl (.inl e1), atI_nat (j := 2) rfl, .int (i : Int), rfl, r, vr ps, (i : Int), .ref p, rfl, rfl, .inl (.inl e2), atI_nat hv, ?_⟩
    refine ⟨by show 0 ≤ sizeLine; decide, fun F nF => ?_⟩
    refine ⟨.str (tx cs), rfl, tx cs, rfl, wl, ((tx cs).length : Int), rfl, by rw [tx_len]; omega, by rw [tx_len]; omega, ?_⟩
    have ew : ((tx cs).length : Int).toNat = cs.length := by rw [tx_len]; omega
    refine for_it (walk_range (lo := 0) (n := ((tx cs).length : Int).toNat)) (fun j σ H' => Same H H' ∧ H' F = some (.lst (vi (plc (mA W.z W.sh cs R j) o))) ∧ ∃ y6, σ = [some (.ref a), some (.int (i : Int)), some (.str (tx cs)), some (.str o), some (.ref p), some (.ref F), y6, none, none]) ⟨same_new nF, upd_same, none, rfl⟩ (fun _ _ _ _ _ => trivial) (fun j v σ H1 H1' hj hW hY => ?_) (fun σ H1 hW => ?_)
    · obtain ⟨s1, f1, y6, rfl⟩ := hW
      obtain ⟨rfl, rfl⟩ := hY
      rw [ew] at hj
      have k0 : (0 : Int) + (j : Int) = (j : Int) := Int.zero_add _
      refine ⟨.ref a, rfl, a, _, 0, .str W.z, rfl, rfl, .inl (.inl (s1 _ _ e1)), atI_nat (j := 0) rfl, .ref a, rfl, a, _, 1, .str W.sh, rfl, rfl, .inl (.inl (s1 _ _ e1)), atI_nat (j := 1) rfl, .ref p, rfl, .str (tx cs), rfl, .int (0 + (j : Int)), rfl, W.z, W.sh, p, R, cs, j, by rw [Int.zero_add]; rfl, (rl i p R hp hR).mono (Tups.same s1), rok, ok.let_, ok.sh, hc, hj, hl, fun H2 s2 => ?_⟩
      have f2 := s2 _ _ f1
      have em := mA_succ W.z W.sh cs R j
      cases ht : tAt W.z W.sh cs j R with
      | none =>
        rw [ht] at em
        refine ⟨.str o, rfl, rfl, _, rfl, ?_⟩
        have e0 : decide (tV none = V.str o) = false := decide_eq_false (by intro z; cases z)
        rw [e0]
        refine ⟨s1.trans s2, ?_, _, rfl⟩
        rw [em, List.append_nil]
        exact f2
      | some wd =>
        rw [ht] at em
        have em : mA W.z W.sh cs R (j + 1) = mA W.z W.sh cs R j ++ [(j, wd)] := em
        refine ⟨.str o, rfl, rfl, _, rfl, ?_⟩
        have e0 : decide (tV (some wd) = V.str o) = decide (tx wd = o) := str_eq
        rw [e0]
        by_cases ho : tx wd = o
        · rw [decide_eq_true ho]
          refine ⟨.ref F, rfl, .inl ⟨rfl, _, .inl (.inl f2)⟩, .int (0 + (j : Int)), rfl, F, _, .int (0 + (j : Int)), rfl, rfl, f2, ?_, fun b ob eb => ?_, ?_, _, rfl⟩
          · rw [List.length_map]
            have := plc_len (mA W.z W.sh cs R j) o
            have := mA_len W.z W.sh cs R j
            exact small1000 (by omega)
          · rw [upd_ne (ne_of_none eb nF)]
            exact s2 _ _ (s1 b ob eb)
          · rw [upd_same, em, plc_app, plc_one, if_pos ho, k0, vi_snoc]
        · rw [decide_eq_false ho]
          refine ⟨s1.trans s2, ?_, _, rfl⟩
          rw [em, plc_app, plc_one, if_neg ho, List.append_nil]
          exact f2
    · obtain ⟨s1, f1, y6, rfl⟩ := hW
      rw [ew, ← mAll_eq] at f1
      have ml : (plc (mAll W.z W.sh cs R) o).length ≤ 100 := by
        have := plc_len (mAll W.z W.sh cs R) o
        rw [mAll_eq] at this ⊢
        have := mA_len W.z W.sh cs R cs.length
        omega
      have co : ∀ {zs}, Comes (aAll W.z W.sh cs R) zs → (o ∈ zs ↔ ¬ plc (mAll W.z W.sh cs R) o = []) := fun h => come_plc h o
      obtain ⟨ns, hns⟩ : ∃ ns, ns = plc (mAll W.z W.sh cs R) o := ⟨_, rfl⟩
      rw [← hns] at f1 ml
      have sh := shaped_vi ns
      have er := SeqAt.eqv_refl _ (SeqAt.canLay_of_shaped sh)
      have hW1 := hW0.mono (Tups.same s1)
      refine ⟨.ref a, rfl, .int (i : Int), rfl, .str (tx cs), rfl, .str o, rfl, a, W, i, R, cs, o, rfl, hW1, ok, hR, hl, hc, fun H2 l s2 nl el => ?_⟩
      rw [← hns] at el
      have f2 := s2 _ _ f1
      have Fl : F ≠ l := ne_of_none f1 nl
      refine ⟨.ref l, rfl, .ref l, .ty "list", .type "list", .type "list", true, rfl, .ty _, .base (.lst el), kit_ty (by decide +kernel), true, rfl, iteF ?_⟩
      refine ⟨.ref l, rfl, .ref F, rfl, _, _, .lst (.inl (.inl el)) (dpAll_vi ns), .lst (.inl (.inl f2)) (dpAll_vi ns), sh, sh, _, rfl, ?_⟩
      rw [er]
      refine ⟨.ref l, rfl, l, rfl, ⟨_, .inl (.inl el)⟩, fun D nD => ?_⟩
      have lD : l ≠ D := ne_of_none el nD
      refine lc_it (walk_list (K := K) (a := l) (xs := vi ns)) (fun j H' => Same H2 H' ∧ H' D = some (.lst [])) ⟨same_new nD, upd_same⟩ (fun j H' _ hP => .inl (.inl (hP.1 _ _ el))) (fun j x H3 H3' hj hW hY => ?_) (fun H3 hW => ?_)
      · obtain ⟨s3, d3⟩ := hW
        obtain ⟨rfl, hx⟩ := hY
        obtain ⟨n, rfl⟩ : ∃ n : Int, x = .int n := by
          rw [List.getElem?_map] at hx
          cases hn : ns[j]? with
          | none =>
            rw [hn] at hx
            cases hx
          | some n =>
            rw [hn] at hx
            cases hx
            exact ⟨_, rfl⟩
        refine ⟨rfl, .int n, rfl, .int n, .ty "bool", .type "int", .type "bool", false, rfl, .ty _, .base (.int n), kit_ty (by decide +kernel), false, rfl, ?_⟩
        exact ⟨s3, d3⟩
      · obtain ⟨s3, d3⟩ := hW
        refine ⟨by show 0 ≤ sizeLine; decide, fun p5 n5 => ?_⟩
        refine ⟨.list [], .list [], .lst (.inl (.inl ((same_new n5) _ _ d3))) .nil, .lst (.inl (.inl upd_same)) .nil, rfl, rfl, _, rfl, iteF ?_⟩
        have s5 : Same H2 (upd H3 p5 (.lst [])) := s3.trans (same_new n5)
        generalize upd H3 p5 (.lst []) = H5 at s5
        have el5 := s5 _ _ el
        have f5 := s5 _ _ f2
        refine ⟨.ref l, rfl, .inl ⟨rfl, _, .inl (.inl el5)⟩, l, _, .int 99, rfl, rfl, el5, by rw [List.length_map]; exact small1000 (by omega), ?_⟩
        have f6 : (upd H5 l (.lst (vi ns ++ [.int 99]))) F = some (.lst (vi ns)) := by
          rw [upd_ne Fl]
          exact f5
        have t6 : Tups H1 (upd H5 l (.lst (vi ns ++ [.int 99]))) := (Tups.same (s2.trans s5)).trans (Tups.lst el5)
        have s6 : Same H (upd H5 l (.lst (vi ns ++ [.int 99]))) := fun b ob eb => by
          rw [upd_ne (ne_of_none (s1 b ob eb) nl)]
          exact s5 _ _ (s2 _ _ (s1 b ob eb))
        generalize upd H5 l (.lst (vi ns ++ [.int 99])) = H6 at f6 t6 s6
        have hW6 := hW1.mono t6
        refine ⟨.ref a, rfl, .int (i : Int), rfl, .str (tx cs), rfl, .str o, rfl, a, W, i, R, cs, o, rfl, hW6, ok, hR, hl, hc, fun H7 l7 s7 nl7 el7 => ?_⟩
        rw [← hns] at el7
        refine ⟨.ref F, rfl, _, _, .lst (.inl (.inl el7)) (dpAll_vi ns), .lst (.inl (.inl (s7 _ _ f6))) (dpAll_vi ns), sh, sh, _, rfl, ?_⟩
        rw [er]
        have s67 := s6.trans s7
        refine ⟨.str o, rfl, .ref a, rfl, a, _, 0, .str W.z, rfl, rfl, .inl (.inl (s67 _ _ e1)), atI_nat (j := 0) rfl, .ref a, rfl, a, _, 1, .str W.sh, rfl, rfl, .inl (.inl (s67 _ _ e1)), atI_nat (j := 1) rfl, .ref p, rfl, .str (tx cs), rfl, W.z, W.sh, p, R, cs, rfl, (rl i p R hp hR).mono (Tups.same s67), rok, by omega, hl, hc, fun H8 m zs s8 nm em cm => ?_⟩
        refine ⟨m, zs.map V.str, rfl, .inl (.inl (.inl em)), rfl, flat_strs zs, .ref F, rfl, by show 0 ≤ sizeLine; decide, fun p9 n9 => ?_⟩
        refine ⟨_, .list [], .lst (.inl (.inl ((same_new n9) _ _ (s8 _ _ (s7 _ _ f6))))) (dpAll_vi ns), .lst (.inl (.inl upd_same)) .nil, sh, rfl, rfl, ?_⟩
        have ef : decide (V.bl (if false = true then !inV (.str o) (zs.map V.str) else inV (.str o) (zs.map V.str)) = V.bl (!PyData.eqv (.list (ns.map fun (n : Nat) => PyData.int (n : Int))) (.list []))) = true := by
          rw [if_neg Bool.false_ne_true, inV_strs, eqv_vi]
          refine decide_eq_true (congrArg V.bl ?_)
          have := co cm
          rw [← hns] at this
          by_cases hn : ns = []
          · rw [decide_eq_true hn, decide_eq_false fun h => (this.mp h) hn]
            rfl
          · rw [decide_eq_false hn, decide_eq_true (this.mpr hn)]
            rfl
        rw [ef]
        exact q _ ((s67.trans s8).trans (same_new n9))
end
end LH

namespace LH
open PySem PySem.Spec PyProof.Rows L2
section
variable {P : Program} {w : World} {K : PySem.W.Frag} {mg : Str → Option Value} {base : Heap}
def sp_law (K : PySem.W.Frag) : Sp := fun vs H Q _ => ∃ (a : Addr) (ns : List Int), vs = [.ref a] ∧ SqL K H a (ns.map V.int) ∧ ns.length ≤ 63 ∧ ∀ H', Q (.bl true) H'
theorem ints_at {ns : List Int} {i : Nat} {x : V} {lo hi : Option Int} (h : (cutV (ns.map V.int) lo hi ++ [V.int 0])[i]? = some x) : ∃ c, x = .int c := by
  have hm := List.mem_of_getElem? h
  rcases List.mem_append.mp hm with z | z
  · unfold cutV at z
    obtain ⟨c, _, rfl⟩ := List.mem_map.mp (List.mem_of_mem_drop (List.mem_of_mem_take z))
    exact ⟨c, rfl⟩
  · exact ⟨0, List.mem_singleton.mp z⟩
theorem none_made (z sh : Str) (R : Rul) (o : Str) : plc (mAll z sh [] R) o = [] := by
  rw [mAll_eq]
  rfl
theorem ok_law {f : Addr} {fd : FuncData} (F : Fun K "law" "law" s_law f fd) (T : TX K mg) : FnOk P w K mg base CX0 6 f fd ["script"] (sp_law K) := by
  have G_law_cell_at : FnOk P w K mg base CX0 1 T.a_law_cell_at T.fd_law_cell_at ["script", "k"] (sp_law_cell_at K) := ok_law_cell_at T
  have G_law_take : FnOk P w K mg base CX0 1 T.a_law_take T.fd_law_take ["deck", "many"] sp_law_take := ok_law_take T
  have G_law_deck : FnOk P w K mg base CX0 1 T.a_law_deck T.fd_law_deck ["cell", "k"] sp_law_deck := ok_law_deck T
  have G_law_world : FnOk P w K mg base CX0 4 T.a_law_world T.fd_law_world ["deck", "most", "rules"] sp_law_world := ok_law_world T
  have G_law_word : FnOk P w K mg base CX0 2 T.a_law_word T.fd_law_word ["deck", "letters"] sp_law_word := ok_law_word T
  have G_law_steps : FnOk P w K mg base CX0 3 T.a_law_steps T.fd_law_steps ["world", "word"] sp_law_steps := ok_law_steps T
  have G_law_right : FnOk P w K mg base CX0 5 T.a_law_right T.fd_law_right ["world", "number", "word", "other"] sp_law_right := ok_law_right T
  have G_places_of : FnOk P w K mg base CX0 4 T.a_places_of T.fd_places_of ["world", "number", "word", "other"] sp_places_of := ok_places_of T
  refine F.ok sc_law (fun vs H Q E h => ?_) (fun cdv A outer s H vs Q E hr h => ?_)
  · obtain ⟨a, ns, rfl, _⟩ := h
    rfl
  · obtain ⟨a, ns, rfl, hS, hlen, q⟩ := h
    refine ⟨_, (pss_cons (ps_set (i := 1) sc_law.nd rfl (Or.inl rfl) (pe_call G_law_world (hr.mono (by decide)) (by rfl) T.g_law_world T.F_law_world.kp T.b_law_world .nil pass0 (pa_cons (pe_call G_law_deck (hr.mono (by decide)) (by rfl) T.g_law_deck T.F_law_deck.kp T.b_law_deck .nil pass0 (pa_cons (pe_call G_law_cell_at (hr.mono (by decide)) (by rfl) T.g_law_cell_at T.F_law_cell_at.kp T.b_law_cell_at .nil pass0 (pa_cons (pv 0) (pa_cons pe_int pa_nil))) (pa_cons pe_int pa_nil))) (pa_cons pe_int (pa_cons pe_int pa_nil)))))
      (pss_cons (ps_if (PW.pt (pw_or (pt_cmpR (op_neDK K rfl hr.units) (pe_call G_places_of (hr.mono (by decide)) (by rfl) T.g_places_of T.F_places_of.kp T.b_places_of .nil pass0 (pa_cons (pv 1) (pa_cons pe_int (pa_cons pe_str (pa_cons pe_str pa_nil))))) (pe_lst pa_nil) (nomark _)) (pw_or1 (pt_cmpR (op_neDK K rfl hr.units) (pe_call G_places_of (hr.mono (by decide)) (by rfl) T.g_places_of T.F_places_of.kp T.b_places_of .nil pass0 (pa_cons (pv 1) (pa_cons pe_int (pa_cons pe_str (pa_cons (pe_ix (ix_tupK K rfl) (pv 1) pe_int (fun _ _ => rfl)) pa_nil))))) (pe_lst pa_nil) (nomark _)))))
        (pss_one (ps_ret pe_bl))
        pss_nil)
      (pss_cons (ps_for PassesOwn.never rfl (pi_listK K rfl (pe_op op_cat (pe_slice (sl_listK K rfl) (pv 0) (po_some pe_int) (po_some pe_int)) (pe_lst (pa_cons pe_int pa_nil)))) (pg_name (i := 2) sc_law.nd rfl (Or.inl rfl))
        (pss_cons (ps_set (i := 3) sc_law.nd rfl (Or.inl rfl) (pe_call G_law_deck (hr.mono (by decide)) (by rfl) T.g_law_deck T.F_law_deck.kp T.b_law_deck .nil pass0 (pa_cons (pv 2) (pa_cons pe_int pa_nil))))
          (pss_cons (ps_set (i := 4) sc_law.nd rfl (Or.inl rfl) (pe_call G_law_word (hr.mono (by decide)) (by rfl) T.g_law_word T.F_law_word.kp T.b_law_word .nil pass0 (pa_cons (pv 3) (pa_cons (pe_ix (ix_tupK K rfl) (pv 1) pe_int (fun _ _ => rfl)) pa_nil))))
          (pss_cons (ps_set (i := 5) sc_law.nd rfl (Or.inl rfl) (pe_call G_law_take (hr.mono (by decide)) (by rfl) T.g_law_take T.F_law_take.kp T.b_law_take .nil pass0 (pa_cons (pv 3) (pa_cons (pe_callB (call_lenK K rfl) (by rfl) T.m_len (by decide +kernel) (pa_cons (pe_ix (ix_tupK K rfl) (pv 1) pe_int (fun _ _ => rfl)) pa_nil)) pa_nil))))
          (pss_cons (ps_set (i := 6) sc_law.nd rfl (Or.inl rfl) (pe_op op_cat (pe_lc (own := [("numbers", 8), ("made", 9)]) (tt := tYes) (by rfl) sc_law.nd (pi_listK K rfl (pe_call G_law_steps (hr.mono (by decide)) (by rfl) T.g_law_steps T.F_law_steps.kp T.b_law_steps .nil pass0 (pa_cons (pv 1) (pa_cons (pv 4) pa_nil)))) (blkOk_by (own := [("numbers", 8), ("made", 9)]) (N := N_law) (by kernel_rfl)) (fun _ _ _ _ _ => (pg_tupK (n := 2) K rfl (by rfl) (pgs_cons (pg_name (i := 8) sc_law.nd rfl (Or.inl rfl)) (pgs_cons (pg_name (i := 9) sc_law.nd rfl (Or.inl rfl)) pgs_nil)))) (fun _ _ _ _ _ => pts_nil) (fun _ _ _ _ _ => (pv 9))) (pe_lst (pa_cons (pv 4) (pa_cons (pe_revS (pv 4)) pa_nil)))))
          (pss_one (ps_for PassesOwn.never rfl (pi_listK K rfl (pe_lst (pa_cons (pe_ix (ix_listK K rfl) (pv 6) (pe_call G_law_take (hr.mono (by decide)) (by rfl) T.g_law_take T.F_law_take.kp T.b_law_take .nil pass0 (pa_cons (pv 3) (pa_cons (pe_callB (call_lenK K rfl) (by rfl) T.m_len (by decide +kernel) (pa_cons (pv 6) pa_nil)) pa_nil))) (fun _ _ => rfl)) (pa_cons (pe_call G_law_word (hr.mono (by decide)) (by rfl) T.g_law_word T.F_law_word.kp T.b_law_word .nil pass0 (pa_cons (pv 3) (pa_cons (pe_ix (ix_tupK K rfl) (pv 1) pe_int (fun _ _ => rfl)) pa_nil))) pa_nil)))) (pg_name (i := 7) sc_law.nd rfl (Or.inl rfl))
            (pss_one (ps_if (pt_not (pt_val (pe_call G_law_right (hr.mono (by decide)) (by rfl) T.g_law_right T.F_law_right.kp T.b_law_right .nil pass0 (pa_cons (pv 1) (pa_cons (pv 5) (pa_cons (pv 4) (pa_cons (pv 7) pa_nil)))))))
                (pss_one (ps_ret pe_bl))
                pss_nil)))))))))
      (pss_one (ps_ret pe_bl))))), ?_⟩
    refine ⟨.ref a, rfl, a, ns, 0, rfl, hS, fun c0 => ?_⟩
    refine ⟨c0, 2, rfl, fun H1 r0 s1 nr0 R1 => ?_⟩
    refine ⟨r0, 2, rfl, R1, by decide, fun H2 wa W o2 hW ok => ?_⟩
    have b2 : Same H H2 := fun b o e => o2 b o (ne_of_none e nr0) (s1 b o e)
    have hz := ok.let_
    have h5 := hz.five
    obtain ⟨R0, hR0⟩ : ∃ R, W.rs[0]? = some R := ⟨_, List.getElem?_eq_getElem (by have := ok.many.1; omega)⟩
    -- no hands
    refine ⟨.ref wa, rfl, wa, W, 0, R0, [], "", rfl, hW, ok, hR0, by decide, (fun _ h => nomatch h), fun H3 l3 s3 n3 e3 => ?_⟩
    rw [none_made] at e3
    refine ⟨by show 0 ≤ sizeLine; decide, fun p4 n4 => ?_⟩
    refine ⟨.list [], .list [], .lst (.inl (.inl ((same_new n4) _ _ e3))) .nil, .lst (.inl (.inl upd_same)) .nil, rfl, rfl, _, rfl, iteF ?_⟩
    have s4 : Same H2 (upd H3 p4 (.lst [])) := s3.trans (same_new n4)
    generalize upd H3 p4 (.lst []) = H4 at s4
    have hW4 := hW.mono (Tups.same s4)
    have ew4 : ∃ r ps, H4 wa = some (.tup [.str W.z, .str W.sh, .ref r, .str W.b, .str W.d]) ∧ H4 r = some (.tup (vr ps)) ∧ ps.length = W.rs.length := by
      obtain ⟨r, ps, x1, x2, x3, _⟩ := hW4
      exact ⟨r, ps, x1, x2, x3⟩
    obtain ⟨rr, ps, ew, er, lp⟩ := ew4
    refine ⟨.ref wa, rfl, .ref wa, rfl, wa, _, 0, .str W.z, rfl, rfl, .inl (.inl ew), atI_nat (j := 0) rfl, wa, W, 0, R0, [], W.z, rfl, hW4, ok, hR0, by decide, (fun _ h => nomatch h), fun H5 l5 s5 n5 e5 => ?_⟩
    rw [none_made] at e5
    refine ⟨by show 0 ≤ sizeLine; decide, fun p6 n6 => ?_⟩
    refine ⟨.list [], .list [], .lst (.inl (.inl ((same_new n6) _ _ e5))) .nil, .lst (.inl (.inl upd_same)) .nil, rfl, rfl, _, rfl, iteF ?_⟩
    have s6 : Same H4 (upd H5 p6 (.lst [])) := s5.trans (same_new n6)
    generalize upd H5 p6 (.lst []) = H6 at s6
    have hS6 := (b2.trans (s4.trans s6)).seq hS
    have hW6 := hW4.mono (Tups.same s6)
    have ew6 := s6 _ _ ew
    have er6 := s6 _ _ er
    -- the cells
    refine ⟨.ref a, rfl, 1, rfl, 41, rfl, a, _, rfl, hS6, fun p1 n1 => ?_⟩
    refine ⟨by show 1 ≤ sizeLine; decide, fun p2 n2 => ?_⟩
    have cl : (cutV (ns.map V.int) (some 1) (some 41)).length ≤ 63 := by
      have := cutV_length (ns.map V.int) (some 1) (some 41)
      rw [List.length_map] at this
      omega
    refine ⟨p1, p2, _, [.int 0], rfl, rfl, (same_new n2) _ _ upd_same, upd_same, Nat.le_trans (show (cutV (ns.map V.int) (some 1) (some 41)).length + 1 ≤ 100 by omega) (by decide), fun p3 n3' => ?_⟩
    have s7 : Same H6 (upd (upd (upd H6 p1 (.lst (cutV (ns.map V.int) (some 1) (some 41)))) p2 (.lst [.int 0])) p3 (.lst (cutV (ns.map V.int) (some 1) (some 41) ++ [.int 0]))) := ((same_new n1).trans (same_new n2)).trans (same_new n3')
    have e7 : (upd (upd (upd H6 p1 (.lst (cutV (ns.map V.int) (some 1) (some 41)))) p2 (.lst [.int 0])) p3 (.lst (cutV (ns.map V.int) (some 1) (some 41) ++ [.int 0]))) p3 = some (.lst (cutV (ns.map V.int) (some 1) (some 41) ++ [.int 0])) := upd_same
    generalize upd (upd (upd H6 p1 (.lst (cutV (ns.map V.int) (some 1) (some 41)))) p2 (.lst [.int 0])) p3 (.lst (cutV (ns.map V.int) (some 1) (some 41) ++ [.int 0])) = H7 at s7 e7
    refine ⟨p3, rfl, ⟨_, .inl (.inl e7)⟩, ?_⟩
    refine for_it (walk_list (K := K) (a := p3) (xs := cutV (ns.map V.int) (some 1) (some 41) ++ [V.int 0])) (fun i σ H' => Same H7 H' ∧ ∃ y2 y3 y4 y5 y6 y7, σ = [some (.ref a), some (.ref wa), y2, y3, y4, y5, y6, y7, none, none]) ⟨fun _ _ e => e, none, none, none, none, none, none, rfl⟩ (fun i σ H' _ hP => .inl (.inl (hP.1 _ _ e7))) (fun i x σ H8 H8' hi hW hY => ?_) (fun σ H8 hW => ?_)
    · obtain ⟨s8, y2, y3, y4, y5, y6, y7, rfl⟩ := hW
      obtain ⟨rfl, hx⟩ := hY
      obtain ⟨c, rfl⟩ := ints_at hx
      have s68 : Same H6 H8' := s7.trans s8
      refine ⟨.int c, rfl, c, 3, rfl, fun H9 r s9 nr R9 => ?_⟩
      have ew9 := (s68.trans s9) _ _ ew6
      have er9 := (s68.trans s9) _ _ er6
      have hW9 := hW6.mono (Tups.same (s68.trans s9))
      refine ⟨.ref r, rfl, .ref wa, rfl, wa, _, 0, .str W.z, rfl, rfl, .inl (.inl ew9), atI_nat (j := 0) rfl, r, W.z, 3, rfl, R9, by decide, hz, fun H10 cs o10 R10 lc hc => ?_⟩
      have ew10 := o10 _ _ (R9.neT ew9) ew9
      have er10 := o10 _ _ (R9.neT er9) er9
      have pl : (vr ps).length = W.rs.length := by rw [List.length_map]; exact lp
      have mn := ok.many
      refine ⟨.ref r, rfl, .ref wa, rfl, wa, _, 2, .ref rr, rfl, rfl, .inl (.inl ew10), atI_nat (j := 2) rfl, rr, vr ps, rfl, .inr (.inl (.inl er10)), r, ((vr ps).length : Int), 53, rfl, R10, by decide, by rw [pl]; omega, by rw [pl]; omega, fun H11 g o11 R11 g0 g1 => ?_⟩
      rw [pl] at g1
      obtain ⟨n, rfl⟩ : ∃ n : Nat, g = (n : Int) := ⟨g.toNat, by omega⟩
      obtain ⟨R, hR⟩ : ∃ R, W.rs[n]? = some R := ⟨_, List.getElem?_eq_getElem (by omega)⟩
      have hW11 := (hW9.mono (Tups.off R9 o10)).mono (Tups.off R10 o11)
      have ew11 := o11 _ _ (R10.neT ew10) ew10
      have b11 : Same H8' H11 := fun b o e => o11 b o (ne_of_none e nr) (o10 b o (ne_of_none e nr) (s9 b o e))
      refine ⟨.ref wa, rfl, .str (tx cs), rfl, wa, W, cs, rfl, hW11, ok, lc, hc, fun H12 l as s12 nl el la pr => ⟨l, rfl, ⟨_, .inl (.inl el)⟩, fun D nD => ?_⟩⟩
      have lD : l ≠ D := ne_of_none el nD
      refine lc_it (walk_list (K := K) (a := l) (xs := vr as)) (fun j H' => Same H12 H' ∧ ∃ ts : List Str, H' D = some (.lst (ts.map V.str)) ∧ ts.length = j) ⟨same_new nD, [], upd_same, rfl⟩ (fun j H' _ hP => .inl (.inl (hP.1 _ _ el))) (fun j x H13 H13' hj hW hY => ?_) (fun H13 hW => ?_)
      · obtain ⟨s13, ts, d13, lt⟩ := hW
        obtain ⟨rfl, hx⟩ := hY
        obtain ⟨b, hb, rfl⟩ := ref_at hx
        rw [List.length_map] at hj
        obtain ⟨m, t, eb⟩ := pr b (List.mem_of_getElem? hb)
        refine ⟨b, [.int m, .str t], rfl, .inl (.inl (s13 _ _ eb)), rfl, .int m, _, rfl, .str t, [], rfl, rfl, rfl, lcyes ?_⟩
        refine ⟨.str t, rfl, ts.map V.str, d13, by rw [List.length_map]; exact small1000 (by omega), fun b ob eb => ?_, ts ++ [t], ?_, by rw [List.length_append, lt]; rfl⟩
        · rw [upd_ne (ne_of_none eb nD)]
          exact s13 b ob eb
        · rw [upd_same, List.map_append]
          rfl
      · obtain ⟨s13, ts, d13, lt⟩ := hW
        rw [List.length_map] at lt
        have wl : (tx cs).length ≤ sizeLine := by
          rw [tx_len]
          exact Nat.le_trans lc (by decide)
        refine ⟨.str (tx cs), rfl, .str (tx cs), rfl, tx cs, rfl, wl, by show 2 ≤ sizeLine; decide, fun p14 n14 => ?_⟩
        refine ⟨D, p14, _, _, rfl, rfl, (same_new n14) _ _ d13, upd_same, ?_, fun p15 n15 => ?_⟩
        · rw [List.length_map]
          exact Nat.le_of_lt (small1000 (show ts.length + 2 ≤ 1000 by omega))
        generalize hrv : (⟨(tx cs).cps.toList.reverse.toArray⟩ : Str) = rv at n15
        have ee : ts.map V.str ++ [V.str (tx cs), V.str rv] = (ts ++ [tx cs, rv]).map V.str := by
          rw [List.map_append]
          rfl
        have s15 : Same H11 (upd (upd H13 p14 (.lst [.str (tx cs), .str rv])) p15 (.lst (ts.map V.str ++ [V.str (tx cs), V.str rv]))) := (s12.trans s13).trans ((same_new n14).trans (same_new n15))
        have e15 : (upd (upd H13 p14 (.lst [.str (tx cs), .str rv])) p15 (.lst (ts.map V.str ++ [V.str (tx cs), V.str rv]))) p15 = some (.lst ((ts ++ [tx cs, rv]).map V.str)) := by rw [upd_same, ee]
        have R15 : RowAt (upd (upd H13 p14 (.lst [.str (tx cs), .str rv])) p15 (.lst (ts.map V.str ++ [V.str (tx cs), V.str rv]))) r 54 := by
          obtain ⟨x, y, z, e, z0, z1⟩ := R11
          exact ⟨x, y, z, s15 _ _ e, z0, z1⟩
        generalize upd (upd H13 p14 (.lst [.str (tx cs), .str rv])) p15 (.lst (ts.map V.str ++ [V.str (tx cs), V.str rv])) = H15 at s15 e15 R15
        have l15 : (ts ++ [tx cs, rv]).length = ts.length + 2 := by rw [List.length_append]; rfl
        generalize ts ++ [tx cs, rv] = os at e15 l15
        have ol : ((os.map V.str).length : Int) = (os.length : Int) := by rw [List.length_map]
        refine ⟨.ref p15, rfl, .ref r, rfl, .ref p15, rfl, p15, _, rfl, .inl (.inl (.inl e15)), r, ((os.map V.str).length : Int), 54, rfl, R15, by decide, by rw [ol]; omega, by rw [ol]; omega, fun H16 g16 o16 R16 k0 k1 => ?_⟩
        rw [ol] at k1
        obtain ⟨j, rfl⟩ : ∃ j : Nat, g16 = (j : Int) := ⟨g16.toNat, by omega⟩
        have hj : (os.map V.str)[j]? = some (.str (os[j]'(by omega))) := by
          rw [List.getElem?_map, List.getElem?_eq_getElem (by omega)]
          rfl
        generalize os[j]'(by omega) = oj at hj
        have r15 : p15 ≠ r := fun z => by
          obtain ⟨x, y, w', e, _⟩ := R15
          rw [z, e] at e15
          have := congrArg (fun o => match o with | some (HO.lst xs) => xs[0]? | _ => none) e15
          match os, l15, this with
          | c :: cs, _, h => cases h
        have ew15 := s15 _ _ ew11
        have ew16 := o16 _ _ (R15.neT ew15) ew15
        refine ⟨p15, _, (j : Int), .str oj, rfl, rfl, .inl (.inl (o16 _ _ r15 e15)), atI_nat hj, ?_⟩
        refine ⟨.ref r, rfl, .ref wa, rfl, wa, _, 0, .str W.z, rfl, rfl, .inl (.inl ew16), atI_nat (j := 0) rfl, r, W.z, 55, rfl, R16, by decide, hz, fun H17 ds o17 R17 _ _ => ?_⟩
        refine ⟨by show 2 ≤ sizeLine; decide, fun p18 n18 => ?_⟩
        have b17 : Same H8' H17 := fun b o e => o17 b o (ne_of_none e nr) (o16 b o (ne_of_none e nr) (s15 b o (b11 b o e)))
        have hW17 := ((hW11.mono (Tups.same s15)).mono (Tups.off R15 o16)).mono (Tups.off R16 o17)
        have b18 := b17.trans (same_new (o := .lst [.str oj, .str (tx ds)]) n18)
        have hW18 := hW17.mono (Tups.new (o := .lst [.str oj, .str (tx ds)]) n18)
        have e18 : (upd H17 p18 (.lst [.str oj, .str (tx ds)])) p18 = some (.lst [.str oj, .str (tx ds)]) := upd_same
        generalize upd H17 p18 (.lst [.str oj, .str (tx ds)]) = H18 at b18 hW18 e18
        refine ⟨p18, rfl, ⟨_, .inl (.inl e18)⟩, ?_⟩
        refine for_it (walk_list (K := K) (a := p18) (xs := [V.str oj, V.str (tx ds)])) (fun k σ H' => Same H18 H' ∧ ∃ y7, σ = [some (.ref a), some (.ref wa), some (.int c), some (.ref r), some (.str (tx cs)), some (.int (n : Int)), some (.ref p15), y7, none, none]) ⟨fun _ _ e => e, _, rfl⟩ (fun k σ H' _ hP => .inl (.inl (hP.1 _ _ e18))) (fun k x σ H19 H19' hk hW hY => ?_) (fun σ H19 hW => ?_)
        · obtain ⟨s19, y7, rfl⟩ := hW
          obtain ⟨rfl, hx⟩ := hY
          obtain ⟨o, rfl⟩ : ∃ o : Str, x = .str o := by
            match k, hx with
            | 0, h => exact ⟨_, (Option.some.inj h).symm⟩
            | 1, h => exact ⟨_, (Option.some.inj h).symm⟩
            | k + 2, h => simp at h
          refine ⟨.ref wa, rfl, .int (n : Int), rfl, .str (tx cs), rfl, .str o, rfl, wa, W, n, R, cs, o, rfl, hW18.mono (Tups.same s19), ok, hR, by omega, hc, fun H20 s20 => ⟨true, rfl, iteF ?_⟩⟩
          exact ⟨s19.trans s20, _, rfl⟩
        · obtain ⟨s19, y7, rfl⟩ := hW
          exact ⟨s8.trans (b18.trans s19), _, _, _, _, _, _, rfl⟩
    · obtain ⟨s8, y2, y3, y4, y5, y6, y7, rfl⟩ := hW
      exact q _
end
end LH

namespace LH
open PySem PySem.Spec PyProof.Rows L2
theorem all_mk {l : PySem.W.OpenLaw} {w : World} {K : PySem.W.Frag} {h : Heap} {mg : Str → Option Value} {fa : Addr} (X : K.In h) (G : h.Ns mainGlobals mg) (hfa : mg "law" = some (.ref fa))
    {f_after : Addr} {od_after an_after : Option Addr} {sl_after : Array (Option Value)} {oc_after kV_after dc_after pm_after cd_after ct_after : Value}
    (a_after : PySem.W.nsIn K mainGlobals "after" = some (some (.ref f_after))) (l_after : K.lookup f_after = some ⟨oc_after, od_after, .func (PySem.W.fnOf "after" "after" (defArgs s_after) (defBody s_after) (defScope s_after) .none kV_after dc_after pm_after an_after cd_after ct_after), sl_after⟩) (c_after : PySem.W.codeIn K cd_after "after" = true) (k_after : PySem.W.keepIn K (.ref f_after) = true)
    {f_made_at : Addr} {od_made_at an_made_at : Option Addr} {sl_made_at : Array (Option Value)} {oc_made_at kV_made_at dc_made_at pm_made_at cd_made_at ct_made_at : Value}
    (a_made_at : PySem.W.nsIn K mainGlobals "made_at" = some (some (.ref f_made_at))) (l_made_at : K.lookup f_made_at = some ⟨oc_made_at, od_made_at, .func (PySem.W.fnOf "made_at" "made_at" (defArgs s_made_at) (defBody s_made_at) (defScope s_made_at) .none kV_made_at dc_made_at pm_made_at an_made_at cd_made_at ct_made_at), sl_made_at⟩) (c_made_at : PySem.W.codeIn K cd_made_at "made_at" = true) (k_made_at : PySem.W.keepIn K (.ref f_made_at) = true)
    {f_made_by_one : Addr} {od_made_by_one an_made_by_one : Option Addr} {sl_made_by_one : Array (Option Value)} {oc_made_by_one kV_made_by_one dc_made_by_one pm_made_by_one cd_made_by_one ct_made_by_one : Value}
    (a_made_by_one : PySem.W.nsIn K mainGlobals "made_by_one" = some (some (.ref f_made_by_one))) (l_made_by_one : K.lookup f_made_by_one = some ⟨oc_made_by_one, od_made_by_one, .func (PySem.W.fnOf "made_by_one" "made_by_one" (defArgs s_made_by_one) (defBody s_made_by_one) (defScope s_made_by_one) .none kV_made_by_one dc_made_by_one pm_made_by_one an_made_by_one cd_made_by_one ct_made_by_one), sl_made_by_one⟩) (c_made_by_one : PySem.W.codeIn K cd_made_by_one "made_by_one" = true) (k_made_by_one : PySem.W.keepIn K (.ref f_made_by_one) = true)
    {f_holds : Addr} {od_holds an_holds : Option Addr} {sl_holds : Array (Option Value)} {oc_holds kV_holds dc_holds pm_holds cd_holds ct_holds : Value}
    (a_holds : PySem.W.nsIn K mainGlobals "holds" = some (some (.ref f_holds))) (l_holds : K.lookup f_holds = some ⟨oc_holds, od_holds, .func (PySem.W.fnOf "holds" "holds" (defArgs s_holds) (defBody s_holds) (defScope s_holds) .none kV_holds dc_holds pm_holds an_holds cd_holds ct_holds), sl_holds⟩) (c_holds : PySem.W.codeIn K cd_holds "holds" = true) (k_holds : PySem.W.keepIn K (.ref f_holds) = true)
    {f_made_by_two : Addr} {od_made_by_two an_made_by_two : Option Addr} {sl_made_by_two : Array (Option Value)} {oc_made_by_two kV_made_by_two dc_made_by_two pm_made_by_two cd_made_by_two ct_made_by_two : Value}
    (a_made_by_two : PySem.W.nsIn K mainGlobals "made_by_two" = some (some (.ref f_made_by_two))) (l_made_by_two : K.lookup f_made_by_two = some ⟨oc_made_by_two, od_made_by_two, .func (PySem.W.fnOf "made_by_two" "made_by_two" (defArgs s_made_by_two) (defBody s_made_by_two) (defScope s_made_by_two) .none kV_made_by_two dc_made_by_two pm_made_by_two an_made_by_two cd_made_by_two ct_made_by_two), sl_made_by_two⟩) (c_made_by_two : PySem.W.codeIn K cd_made_by_two "made_by_two" = true) (k_made_by_two : PySem.W.keepIn K (.ref f_made_by_two) = true)
    {f_pairs_of : Addr} {od_pairs_of an_pairs_of : Option Addr} {sl_pairs_of : Array (Option Value)} {oc_pairs_of kV_pairs_of dc_pairs_of pm_pairs_of cd_pairs_of ct_pairs_of : Value}
    (a_pairs_of : PySem.W.nsIn K mainGlobals "pairs_of" = some (some (.ref f_pairs_of))) (l_pairs_of : K.lookup f_pairs_of = some ⟨oc_pairs_of, od_pairs_of, .func (PySem.W.fnOf "pairs_of" "pairs_of" (defArgs s_pairs_of) (defBody s_pairs_of) (defScope s_pairs_of) .none kV_pairs_of dc_pairs_of pm_pairs_of an_pairs_of cd_pairs_of ct_pairs_of), sl_pairs_of⟩) (c_pairs_of : PySem.W.codeIn K cd_pairs_of "pairs_of" = true) (k_pairs_of : PySem.W.keepIn K (.ref f_pairs_of) = true)
    {f_made_by_call : Addr} {od_made_by_call an_made_by_call : Option Addr} {sl_made_by_call : Array (Option Value)} {oc_made_by_call kV_made_by_call dc_made_by_call pm_made_by_call cd_made_by_call ct_made_by_call : Value}
    (a_made_by_call : PySem.W.nsIn K mainGlobals "made_by_call" = some (some (.ref f_made_by_call))) (l_made_by_call : K.lookup f_made_by_call = some ⟨oc_made_by_call, od_made_by_call, .func (PySem.W.fnOf "made_by_call" "made_by_call" (defArgs s_made_by_call) (defBody s_made_by_call) (defScope s_made_by_call) .none kV_made_by_call dc_made_by_call pm_made_by_call an_made_by_call cd_made_by_call ct_made_by_call), sl_made_by_call⟩) (c_made_by_call : PySem.W.codeIn K cd_made_by_call "made_by_call" = true) (k_made_by_call : PySem.W.keepIn K (.ref f_made_by_call) = true)
    {f_places_of : Addr} {od_places_of an_places_of : Option Addr} {sl_places_of : Array (Option Value)} {oc_places_of kV_places_of dc_places_of pm_places_of cd_places_of ct_places_of : Value}
    (a_places_of : PySem.W.nsIn K mainGlobals "places_of" = some (some (.ref f_places_of))) (l_places_of : K.lookup f_places_of = some ⟨oc_places_of, od_places_of, .func (PySem.W.fnOf "places_of" "places_of" (defArgs s_places_of) (defBody s_places_of) (defScope s_places_of) .none kV_places_of dc_places_of pm_places_of an_places_of cd_places_of ct_places_of), sl_places_of⟩) (c_places_of : PySem.W.codeIn K cd_places_of "places_of" = true) (k_places_of : PySem.W.keepIn K (.ref f_places_of) = true)
    {f_law_cell_at : Addr} {od_law_cell_at an_law_cell_at : Option Addr} {sl_law_cell_at : Array (Option Value)} {oc_law_cell_at kV_law_cell_at dc_law_cell_at pm_law_cell_at cd_law_cell_at ct_law_cell_at : Value}
    (a_law_cell_at : PySem.W.nsIn K mainGlobals "_law_cell_at" = some (some (.ref f_law_cell_at))) (l_law_cell_at : K.lookup f_law_cell_at = some ⟨oc_law_cell_at, od_law_cell_at, .func (PySem.W.fnOf "_law_cell_at" "_law_cell_at" (defArgs s_law_cell_at) (defBody s_law_cell_at) (defScope s_law_cell_at) .none kV_law_cell_at dc_law_cell_at pm_law_cell_at an_law_cell_at cd_law_cell_at ct_law_cell_at), sl_law_cell_at⟩) (c_law_cell_at : PySem.W.codeIn K cd_law_cell_at "_law_cell_at" = true) (k_law_cell_at : PySem.W.keepIn K (.ref f_law_cell_at) = true)
    {f_law_take : Addr} {od_law_take an_law_take : Option Addr} {sl_law_take : Array (Option Value)} {oc_law_take kV_law_take dc_law_take pm_law_take cd_law_take ct_law_take : Value}
    (a_law_take : PySem.W.nsIn K mainGlobals "_law_take" = some (some (.ref f_law_take))) (l_law_take : K.lookup f_law_take = some ⟨oc_law_take, od_law_take, .func (PySem.W.fnOf "_law_take" "_law_take" (defArgs s_law_take) (defBody s_law_take) (defScope s_law_take) .none kV_law_take dc_law_take pm_law_take an_law_take cd_law_take ct_law_take), sl_law_take⟩) (c_law_take : PySem.W.codeIn K cd_law_take "_law_take" = true) (k_law_take : PySem.W.keepIn K (.ref f_law_take) = true)
    {f_law_deck : Addr} {od_law_deck an_law_deck : Option Addr} {sl_law_deck : Array (Option Value)} {oc_law_deck kV_law_deck dc_law_deck pm_law_deck cd_law_deck ct_law_deck : Value}
    (a_law_deck : PySem.W.nsIn K mainGlobals "_law_deck" = some (some (.ref f_law_deck))) (l_law_deck : K.lookup f_law_deck = some ⟨oc_law_deck, od_law_deck, .func (PySem.W.fnOf "_law_deck" "_law_deck" (defArgs s_law_deck) (defBody s_law_deck) (defScope s_law_deck) .none kV_law_deck dc_law_deck pm_law_deck an_law_deck cd_law_deck ct_law_deck), sl_law_deck⟩) (c_law_deck : PySem.W.codeIn K cd_law_deck "_law_deck" = true) (k_law_deck : PySem.W.keepIn K (.ref f_law_deck) = true)
    {f_law_item : Addr} {od_law_item an_law_item : Option Addr} {sl_law_item : Array (Option Value)} {oc_law_item kV_law_item dc_law_item pm_law_item cd_law_item ct_law_item : Value}
    (a_law_item : PySem.W.nsIn K mainGlobals "_law_item" = some (some (.ref f_law_item))) (l_law_item : K.lookup f_law_item = some ⟨oc_law_item, od_law_item, .func (PySem.W.fnOf "_law_item" "_law_item" (defArgs s_law_item) (defBody s_law_item) (defScope s_law_item) .none kV_law_item dc_law_item pm_law_item an_law_item cd_law_item ct_law_item), sl_law_item⟩) (c_law_item : PySem.W.codeIn K cd_law_item "_law_item" = true) (k_law_item : PySem.W.keepIn K (.ref f_law_item) = true)
    {f_law_pattern : Addr} {od_law_pattern an_law_pattern : Option Addr} {sl_law_pattern : Array (Option Value)} {oc_law_pattern kV_law_pattern dc_law_pattern pm_law_pattern cd_law_pattern ct_law_pattern : Value}
    (a_law_pattern : PySem.W.nsIn K mainGlobals "_law_pattern" = some (some (.ref f_law_pattern))) (l_law_pattern : K.lookup f_law_pattern = some ⟨oc_law_pattern, od_law_pattern, .func (PySem.W.fnOf "_law_pattern" "_law_pattern" (defArgs s_law_pattern) (defBody s_law_pattern) (defScope s_law_pattern) .none kV_law_pattern dc_law_pattern pm_law_pattern an_law_pattern cd_law_pattern ct_law_pattern), sl_law_pattern⟩) (c_law_pattern : PySem.W.codeIn K cd_law_pattern "_law_pattern" = true) (k_law_pattern : PySem.W.keepIn K (.ref f_law_pattern) = true)
    {f_law_rule : Addr} {od_law_rule an_law_rule : Option Addr} {sl_law_rule : Array (Option Value)} {oc_law_rule kV_law_rule dc_law_rule pm_law_rule cd_law_rule ct_law_rule : Value}
    (a_law_rule : PySem.W.nsIn K mainGlobals "_law_rule" = some (some (.ref f_law_rule))) (l_law_rule : K.lookup f_law_rule = some ⟨oc_law_rule, od_law_rule, .func (PySem.W.fnOf "_law_rule" "_law_rule" (defArgs s_law_rule) (defBody s_law_rule) (defScope s_law_rule) .none kV_law_rule dc_law_rule pm_law_rule an_law_rule cd_law_rule ct_law_rule), sl_law_rule⟩) (c_law_rule : PySem.W.codeIn K cd_law_rule "_law_rule" = true) (k_law_rule : PySem.W.keepIn K (.ref f_law_rule) = true)
    {f_law_world : Addr} {od_law_world an_law_world : Option Addr} {sl_law_world : Array (Option Value)} {oc_law_world kV_law_world dc_law_world pm_law_world cd_law_world ct_law_world : Value}
    (a_law_world : PySem.W.nsIn K mainGlobals "_law_world" = some (some (.ref f_law_world))) (l_law_world : K.lookup f_law_world = some ⟨oc_law_world, od_law_world, .func (PySem.W.fnOf "_law_world" "_law_world" (defArgs s_law_world) (defBody s_law_world) (defScope s_law_world) .none kV_law_world dc_law_world pm_law_world an_law_world cd_law_world ct_law_world), sl_law_world⟩) (c_law_world : PySem.W.codeIn K cd_law_world "_law_world" = true) (k_law_world : PySem.W.keepIn K (.ref f_law_world) = true)
    {f_law_guarded : Addr} {od_law_guarded an_law_guarded : Option Addr} {sl_law_guarded : Array (Option Value)} {oc_law_guarded kV_law_guarded dc_law_guarded pm_law_guarded cd_law_guarded ct_law_guarded : Value}
    (a_law_guarded : PySem.W.nsIn K mainGlobals "_law_guarded" = some (some (.ref f_law_guarded))) (l_law_guarded : K.lookup f_law_guarded = some ⟨oc_law_guarded, od_law_guarded, .func (PySem.W.fnOf "_law_guarded" "_law_guarded" (defArgs s_law_guarded) (defBody s_law_guarded) (defScope s_law_guarded) .none kV_law_guarded dc_law_guarded pm_law_guarded an_law_guarded cd_law_guarded ct_law_guarded), sl_law_guarded⟩) (c_law_guarded : PySem.W.codeIn K cd_law_guarded "_law_guarded" = true) (k_law_guarded : PySem.W.keepIn K (.ref f_law_guarded) = true)
    {f_law_turned_at : Addr} {od_law_turned_at an_law_turned_at : Option Addr} {sl_law_turned_at : Array (Option Value)} {oc_law_turned_at kV_law_turned_at dc_law_turned_at pm_law_turned_at cd_law_turned_at ct_law_turned_at : Value}
    (a_law_turned_at : PySem.W.nsIn K mainGlobals "_law_turned_at" = some (some (.ref f_law_turned_at))) (l_law_turned_at : K.lookup f_law_turned_at = some ⟨oc_law_turned_at, od_law_turned_at, .func (PySem.W.fnOf "_law_turned_at" "_law_turned_at" (defArgs s_law_turned_at) (defBody s_law_turned_at) (defScope s_law_turned_at) .none kV_law_turned_at dc_law_turned_at pm_law_turned_at an_law_turned_at cd_law_turned_at ct_law_turned_at), sl_law_turned_at⟩) (c_law_turned_at : PySem.W.codeIn K cd_law_turned_at "_law_turned_at" = true) (k_law_turned_at : PySem.W.keepIn K (.ref f_law_turned_at) = true)
    {f_law_steps : Addr} {od_law_steps an_law_steps : Option Addr} {sl_law_steps : Array (Option Value)} {oc_law_steps kV_law_steps dc_law_steps pm_law_steps cd_law_steps ct_law_steps : Value}
    (a_law_steps : PySem.W.nsIn K mainGlobals "_law_steps" = some (some (.ref f_law_steps))) (l_law_steps : K.lookup f_law_steps = some ⟨oc_law_steps, od_law_steps, .func (PySem.W.fnOf "_law_steps" "_law_steps" (defArgs s_law_steps) (defBody s_law_steps) (defScope s_law_steps) .none kV_law_steps dc_law_steps pm_law_steps an_law_steps cd_law_steps ct_law_steps), sl_law_steps⟩) (c_law_steps : PySem.W.codeIn K cd_law_steps "_law_steps" = true) (k_law_steps : PySem.W.keepIn K (.ref f_law_steps) = true)
    {f_law_word : Addr} {od_law_word an_law_word : Option Addr} {sl_law_word : Array (Option Value)} {oc_law_word kV_law_word dc_law_word pm_law_word cd_law_word ct_law_word : Value}
    (a_law_word : PySem.W.nsIn K mainGlobals "_law_word" = some (some (.ref f_law_word))) (l_law_word : K.lookup f_law_word = some ⟨oc_law_word, od_law_word, .func (PySem.W.fnOf "_law_word" "_law_word" (defArgs s_law_word) (defBody s_law_word) (defScope s_law_word) .none kV_law_word dc_law_word pm_law_word an_law_word cd_law_word ct_law_word), sl_law_word⟩) (c_law_word : PySem.W.codeIn K cd_law_word "_law_word" = true) (k_law_word : PySem.W.keepIn K (.ref f_law_word) = true)
    {f_law_right : Addr} {od_law_right an_law_right : Option Addr} {sl_law_right : Array (Option Value)} {oc_law_right kV_law_right dc_law_right pm_law_right cd_law_right ct_law_right : Value}
    (a_law_right : PySem.W.nsIn K mainGlobals "_law_right" = some (some (.ref f_law_right))) (l_law_right : K.lookup f_law_right = some ⟨oc_law_right, od_law_right, .func (PySem.W.fnOf "_law_right" "_law_right" (defArgs s_law_right) (defBody s_law_right) (defScope s_law_right) .none kV_law_right dc_law_right pm_law_right an_law_right cd_law_right ct_law_right), sl_law_right⟩) (c_law_right : PySem.W.codeIn K cd_law_right "_law_right" = true) (k_law_right : PySem.W.keepIn K (.ref f_law_right) = true)
    {f_law : Addr} {od_law an_law : Option Addr} {sl_law : Array (Option Value)} {oc_law kV_law dc_law pm_law cd_law ct_law : Value}
    (a_law : PySem.W.nsIn K mainGlobals "law" = some (some (.ref f_law))) (l_law : K.lookup f_law = some ⟨oc_law, od_law, .func (PySem.W.fnOf "law" "law" (defArgs s_law) (defBody s_law) (defScope s_law) .none kV_law dc_law pm_law an_law cd_law ct_law), sl_law⟩) (c_law : PySem.W.codeIn K cd_law "law" = true) (k_law : PySem.W.keepIn K (.ref f_law) = true)
    (z_all : PySem.W.nsIn K mainGlobals "all" = some none)
    (z_any : PySem.W.nsIn K mainGlobals "any" = some none)
    (z_bool : PySem.W.nsIn K mainGlobals "bool" = some none)
    (z_enumerate : PySem.W.nsIn K mainGlobals "enumerate" = some none)
    (z_int : PySem.W.nsIn K mainGlobals "int" = some none)
    (z_isinstance : PySem.W.nsIn K mainGlobals "isinstance" = some none)
    (z_len : PySem.W.nsIn K mainGlobals "len" = some none)
    (z_list : PySem.W.nsIn K mainGlobals "list" = some none)
    (z_range : PySem.W.nsIn K mainGlobals "range" = some none)
    (z_sorted : PySem.W.nsIn K mainGlobals "sorted" = some none)
    (z_tuple : PySem.W.nsIn K mainGlobals "tuple" = some none)
    : ∃ fd : FuncData, (∀ (s : Shared) (v : Value), BindsTo s fd ⟨[v], []⟩ [("script", v)]) ∧ ∀ base : Heap, K.In base → base.Ns mainGlobals mg → FnOk l.prog w K mg base CX0 6 fa fd ["script"] (sp_law K) := by
  have e := hfa.symm.trans (PySem.W.mg_of X G a_law)
  cases e
  have F_after := fun_mk (st := s_after) l_after c_after k_after
  have F_made_at := fun_mk (st := s_made_at) l_made_at c_made_at k_made_at
  have F_made_by_one := fun_mk (st := s_made_by_one) l_made_by_one c_made_by_one k_made_by_one
  have F_holds := fun_mk (st := s_holds) l_holds c_holds k_holds
  have F_made_by_two := fun_mk (st := s_made_by_two) l_made_by_two c_made_by_two k_made_by_two
  have F_pairs_of := fun_mk (st := s_pairs_of) l_pairs_of c_pairs_of k_pairs_of
  have F_made_by_call := fun_mk (st := s_made_by_call) l_made_by_call c_made_by_call k_made_by_call
  have F_places_of := fun_mk (st := s_places_of) l_places_of c_places_of k_places_of
  have F_law_cell_at := fun_mk (st := s_law_cell_at) l_law_cell_at c_law_cell_at k_law_cell_at
  have F_law_take := fun_mk (st := s_law_take) l_law_take c_law_take k_law_take
  have F_law_deck := fun_mk (st := s_law_deck) l_law_deck c_law_deck k_law_deck
  have F_law_item := fun_mk (st := s_law_item) l_law_item c_law_item k_law_item
  have F_law_pattern := fun_mk (st := s_law_pattern) l_law_pattern c_law_pattern k_law_pattern
  have F_law_rule := fun_mk (st := s_law_rule) l_law_rule c_law_rule k_law_rule
  have F_law_world := fun_mk (st := s_law_world) l_law_world c_law_world k_law_world
  have F_law_guarded := fun_mk (st := s_law_guarded) l_law_guarded c_law_guarded k_law_guarded
  have F_law_turned_at := fun_mk (st := s_law_turned_at) l_law_turned_at c_law_turned_at k_law_turned_at
  have F_law_steps := fun_mk (st := s_law_steps) l_law_steps c_law_steps k_law_steps
  have F_law_word := fun_mk (st := s_law_word) l_law_word c_law_word k_law_word
  have F_law_right := fun_mk (st := s_law_right) l_law_right c_law_right k_law_right
  have F_law := fun_mk (st := s_law) l_law c_law k_law
  let T : TX K mg := {
    a_after := f_after, fd_after := _, F_after := F_after, b_after := F_after.binds (ps := ["letters", "shape", "rule", "word"]) (fun _ _ _ _ _ _ us hl => match us, hl with | [_, _, _, _], _ => rfl), g_after := PySem.W.mg_of X G a_after,
    a_made_at := f_made_at, fd_made_at := _, F_made_at := F_made_at, b_made_at := F_made_at.binds (ps := ["letters", "shape", "rule", "word"]) (fun _ _ _ _ _ _ us hl => match us, hl with | [_, _, _, _], _ => rfl), g_made_at := PySem.W.mg_of X G a_made_at,
    a_made_by_one := f_made_by_one, fd_made_by_one := _, F_made_by_one := F_made_by_one, b_made_by_one := F_made_by_one.binds (ps := ["rule", "word"]) (fun _ _ _ _ _ _ us hl => match us, hl with | [_, _], _ => rfl), g_made_by_one := PySem.W.mg_of X G a_made_by_one,
    a_holds := f_holds, fd_holds := _, F_holds := F_holds, b_holds := F_holds.binds (ps := ["guard", "word", "at"]) (fun _ _ _ _ _ _ us hl => match us, hl with | [_, _, _], _ => rfl), g_holds := PySem.W.mg_of X G a_holds,
    a_made_by_two := f_made_by_two, fd_made_by_two := _, F_made_by_two := F_made_by_two, b_made_by_two := F_made_by_two.binds (ps := ["shape", "rule", "word"]) (fun _ _ _ _ _ _ us hl => match us, hl with | [_, _, _], _ => rfl), g_made_by_two := PySem.W.mg_of X G a_made_by_two,
    a_pairs_of := f_pairs_of, fd_pairs_of := _, F_pairs_of := F_pairs_of, b_pairs_of := F_pairs_of.binds (ps := ["shape", "number"]) (fun _ _ _ _ _ _ us hl => match us, hl with | [_, _], _ => rfl), g_pairs_of := PySem.W.mg_of X G a_pairs_of,
    a_made_by_call := f_made_by_call, fd_made_by_call := _, F_made_by_call := F_made_by_call, b_made_by_call := F_made_by_call.binds (ps := ["letters", "rule", "word"]) (fun _ _ _ _ _ _ us hl => match us, hl with | [_, _, _], _ => rfl), g_made_by_call := PySem.W.mg_of X G a_made_by_call,
    a_places_of := f_places_of, fd_places_of := _, F_places_of := F_places_of, b_places_of := F_places_of.binds (ps := ["world", "number", "word", "other"]) (fun _ _ _ _ _ _ us hl => match us, hl with | [_, _, _, _], _ => rfl), g_places_of := PySem.W.mg_of X G a_places_of,
    a_law_cell_at := f_law_cell_at, fd_law_cell_at := _, F_law_cell_at := F_law_cell_at, b_law_cell_at := F_law_cell_at.binds (ps := ["script", "k"]) (fun _ _ _ _ _ _ us hl => match us, hl with | [_, _], _ => rfl), g_law_cell_at := PySem.W.mg_of X G a_law_cell_at,
    a_law_take := f_law_take, fd_law_take := _, F_law_take := F_law_take, b_law_take := F_law_take.binds (ps := ["deck", "many"]) (fun _ _ _ _ _ _ us hl => match us, hl with | [_, _], _ => rfl), g_law_take := PySem.W.mg_of X G a_law_take,
    a_law_deck := f_law_deck, fd_law_deck := _, F_law_deck := F_law_deck, b_law_deck := F_law_deck.binds (ps := ["cell", "k"]) (fun _ _ _ _ _ _ us hl => match us, hl with | [_, _], _ => rfl), g_law_deck := PySem.W.mg_of X G a_law_deck,
    a_law_item := f_law_item, fd_law_item := _, F_law_item := F_law_item, b_law_item := F_law_item.binds (ps := ["deck", "letters"]) (fun _ _ _ _ _ _ us hl => match us, hl with | [_, _], _ => rfl), g_law_item := PySem.W.mg_of X G a_law_item,
    a_law_pattern := f_law_pattern, fd_law_pattern := _, F_law_pattern := F_law_pattern, b_law_pattern := F_law_pattern.binds (ps := ["deck", "letters"]) (fun _ _ _ _ _ _ us hl => match us, hl with | [_, _], _ => rfl), g_law_pattern := PySem.W.mg_of X G a_law_pattern,
    a_law_rule := f_law_rule, fd_law_rule := _, F_law_rule := F_law_rule, b_law_rule := F_law_rule.binds (ps := ["deck", "letters", "shape"]) (fun _ _ _ _ _ _ us hl => match us, hl with | [_, _, _], _ => rfl), g_law_rule := PySem.W.mg_of X G a_law_rule,
    a_law_world := f_law_world, fd_law_world := _, F_law_world := F_law_world, b_law_world := F_law_world.binds (ps := ["deck", "most", "rules"]) (fun _ _ _ _ _ _ us hl => match us, hl with | [_, _, _], _ => rfl), g_law_world := PySem.W.mg_of X G a_law_world,
    a_law_guarded := f_law_guarded, fd_law_guarded := _, F_law_guarded := F_law_guarded, b_law_guarded := F_law_guarded.binds (ps := ["guard", "word", "place"]) (fun _ _ _ _ _ _ us hl => match us, hl with | [_, _, _], _ => rfl), g_law_guarded := PySem.W.mg_of X G a_law_guarded,
    a_law_turned_at := f_law_turned_at, fd_law_turned_at := _, F_law_turned_at := F_law_turned_at, b_law_turned_at := F_law_turned_at.binds (ps := ["letters", "shape", "rule", "word", "place"]) (fun _ _ _ _ _ _ us hl => match us, hl with | [_, _, _, _, _], _ => rfl), g_law_turned_at := PySem.W.mg_of X G a_law_turned_at,
    a_law_steps := f_law_steps, fd_law_steps := _, F_law_steps := F_law_steps, b_law_steps := F_law_steps.binds (ps := ["world", "word"]) (fun _ _ _ _ _ _ us hl => match us, hl with | [_, _], _ => rfl), g_law_steps := PySem.W.mg_of X G a_law_steps,
    a_law_word := f_law_word, fd_law_word := _, F_law_word := F_law_word, b_law_word := F_law_word.binds (ps := ["deck", "letters"]) (fun _ _ _ _ _ _ us hl => match us, hl with | [_, _], _ => rfl), g_law_word := PySem.W.mg_of X G a_law_word,
    a_law_right := f_law_right, fd_law_right := _, F_law_right := F_law_right, b_law_right := F_law_right.binds (ps := ["world", "number", "word", "other"]) (fun _ _ _ _ _ _ us hl => match us, hl with | [_, _, _, _], _ => rfl), g_law_right := PySem.W.mg_of X G a_law_right,
    m_all := PySem.W.mg_none_of X G z_all,
    m_any := PySem.W.mg_none_of X G z_any,
    m_bool := PySem.W.mg_none_of X G z_bool,
    m_enumerate := PySem.W.mg_none_of X G z_enumerate,
    m_int := PySem.W.mg_none_of X G z_int,
    m_isinstance := PySem.W.mg_none_of X G z_isinstance,
    m_len := PySem.W.mg_none_of X G z_len,
    m_list := PySem.W.mg_none_of X G z_list,
    m_range := PySem.W.mg_none_of X G z_range,
    m_sorted := PySem.W.mg_none_of X G z_sorted,
    m_tuple := PySem.W.mg_none_of X G z_tuple }
  exact ⟨_, fun s v => .of_eq rfl, fun base _ _ => ok_law F_law T⟩
end LH
open PySem PySem.W PyProof.Rows
set_option maxHeartbeats 0 in
theorem PySem.Challenge.cw_likehands_k88_places_of_steps_holds : PySem.Challenge.rw_likehands_k88_places_of_steps.Holds := by
  w_on; o_law; k_head; (case hw => w_witness2)
  k_fill
  refine L2.walk_of (l := PySem.Challenge.rw_likehands_k88_places_of_steps) (n := 63) (k := 6) (x := "script") (CX := fun _ => L2.CX0) (sp := fun w => LH.sp_law _) rfl (by decide) rfl ⟨rfl, by decide, by decide⟩ (fun w h Y => PySem.W.kIn_of Y) ?F (fun _ _ a ns hl _ hS => ⟨a, ns, rfl, hS, hl, fun _ => rfl⟩) (fun _ _ _ _ _ h => h)
  case F =>
    intro w mg fa h KX G hmg
    refine' LH.all_mk KX G hmg ?a_after ?l_after ?c_after ?k_after ?a_made_at ?l_made_at ?c_made_at ?k_made_at ?a_made_by_one ?l_made_by_one ?c_made_by_one ?k_made_by_one ?a_holds ?l_holds ?c_holds ?k_holds ?a_made_by_two ?l_made_by_two ?c_made_by_two ?k_made_by_two ?a_pairs_of ?l_pairs_of ?c_pairs_of ?k_pairs_of ?a_made_by_call ?l_made_by_call ?c_made_by_call ?k_made_by_call ?a_places_of ?l_places_of ?c_places_of ?k_places_of ?a_law_cell_at ?l_law_cell_at ?c_law_cell_at ?k_law_cell_at ?a_law_take ?l_law_take ?c_law_take ?k_law_take ?a_law_deck ?l_law_deck ?c_law_deck ?k_law_deck ?a_law_item ?l_law_item ?c_law_item ?k_law_item ?a_law_pattern ?l_law_pattern ?c_law_pattern ?k_law_pattern ?a_law_rule ?l_law_rule ?c_law_rule ?k_law_rule ?a_law_world ?l_law_world ?c_law_world ?k_law_world ?a_law_guarded ?l_law_guarded ?c_law_guarded ?k_law_guarded ?a_law_turned_at ?l_law_turned_at ?c_law_turned_at ?k_law_turned_at ?a_law_steps ?l_law_steps ?c_law_steps ?k_law_steps ?a_law_word ?l_law_word ?c_law_word ?k_law_word ?a_law_right ?l_law_right ?c_law_right ?k_law_right ?a_law ?l_law ?c_law ?k_law ?z_all ?z_any ?z_bool ?z_enumerate ?z_int ?z_isinstance ?z_len ?z_list ?z_range ?z_sorted ?z_tuple
    (case a_after => k_is)
    (case l_after => k_is)
    (case c_after => k_is)
    (case k_after => k_is)
    (case a_made_at => k_is)
    (case l_made_at => k_is)
    (case c_made_at => k_is)
    (case k_made_at => k_is)
    (case a_made_by_one => k_is)
    (case l_made_by_one => k_is)
    (case c_made_by_one => k_is)
    (case k_made_by_one => k_is)
    (case a_holds => k_is)
    (case l_holds => k_is)
    (case c_holds => k_is)
    (case k_holds => k_is)
    (case a_made_by_two => k_is)
    (case l_made_by_two => k_is)
    (case c_made_by_two => k_is)
    (case k_made_by_two => k_is)
    (case a_pairs_of => k_is)
    (case l_pairs_of => k_is)
    (case c_pairs_of => k_is)
    (case k_pairs_of => k_is)
    (case a_made_by_call => k_is)
    (case l_made_by_call => k_is)
    (case c_made_by_call => k_is)
    (case k_made_by_call => k_is)
    (case a_places_of => k_is)
    (case l_places_of => k_is)
    (case c_places_of => k_is)
    (case k_places_of => k_is)
    (case a_law_cell_at => k_is)
    (case l_law_cell_at => k_is)
    (case c_law_cell_at => k_is)
    (case k_law_cell_at => k_is)
    (case a_law_take => k_is)
    (case l_law_take => k_is)
    (case c_law_take => k_is)
    (case k_law_take => k_is)
    (case a_law_deck => k_is)
    (case l_law_deck => k_is)
    (case c_law_deck => k_is)
    (case k_law_deck => k_is)
    (case a_law_item => k_is)
    (case l_law_item => k_is)
    (case c_law_item => k_is)
    (case k_law_item => k_is)
    (case a_law_pattern => k_is)
    (case l_law_pattern => k_is)
    (case c_law_pattern => k_is)
    (case k_law_pattern => k_is)
    (case a_law_rule => k_is)
    (case l_law_rule => k_is)
    (case c_law_rule => k_is)
    (case k_law_rule => k_is)
    (case a_law_world => k_is)
    (case l_law_world => k_is)
    (case c_law_world => k_is)
    (case k_law_world => k_is)
    (case a_law_guarded => k_is)
    (case l_law_guarded => k_is)
    (case c_law_guarded => k_is)
    (case k_law_guarded => k_is)
    (case a_law_turned_at => k_is)
    (case l_law_turned_at => k_is)
    (case c_law_turned_at => k_is)
    (case k_law_turned_at => k_is)
    (case a_law_steps => k_is)
    (case l_law_steps => k_is)
    (case c_law_steps => k_is)
    (case k_law_steps => k_is)
    (case a_law_word => k_is)
    (case l_law_word => k_is)
    (case c_law_word => k_is)
    (case k_law_word => k_is)
    (case a_law_right => k_is)
    (case l_law_right => k_is)
    (case c_law_right => k_is)
    (case k_law_right => k_is)
    (case a_law => k_is)
    (case l_law => k_is)
    (case c_law => k_is)
    (case k_law => k_is)
    (case z_all => k_is)
    (case z_any => k_is)
    (case z_bool => k_is)
    (case z_enumerate => k_is)
    (case z_int => k_is)
    (case z_isinstance => k_is)
    (case z_len => k_is)
    (case z_list => k_is)
    (case z_range => k_is)
    (case z_sorted => k_is)
    (case z_tuple => k_is)