import PyProof.Rows.All
import Wide.All
import OpenK.AllK
import Wide.FinOn
import HandS.ForMost
import HandS.Style
import HandS.IsInst
import HandS.Replace
import HandS.Wide
import HandS.Codes
import HandS.Walk
import HandS.DictComp
import HandS.Conv
import HandS.Nested
import HandS.EndTab
import PyProof.ListStr
import PyProof.StrOps2
import HandS.AnyAll
import HandS.DictTup
import HandS.EndOwn
import HandS.Finally
import HandS.Iter
import HandS.Rev
import HandS.RevTup
import HandS.Set
import HandS.SetKeys
import HandS.SetTxt0
import HandS.SortRule
import HandS.Strs
import HandS.Style
import HandS.Zip
import KE.GoesMore
import KE.GoesZip
import KE.KDictZip
import KE.KNestM
import KE.KeyNested
import KE.SortData
import PyProof.DictUpdate
import PyProof.EnumMake
import PyProof.P3Eq
import PyProof.Rows.SetFrom
import PyProof.Rows.SortShellAny
import PySem.Challenge.RW_likehands_k61_windows_of_machines
set_option Elab.async false
set_option linter.all false
set_option maxRecDepth 100000
set_option maxHeartbeats 4000000
namespace LH
open PySem PySem.Spec PyProof.Rows L2
/-! ### list(text) -/
section
variable {X : Cx}
def sgns (z : Str) : List V := z.cps.toList.map fun c => V.str ⟨#[c]⟩
theorem sgns_len (z : Str) : (sgns z).length = z.length := by
  unfold sgns
  rw [List.length_map, Array.length_toList]
  rfl
theorem vals_by : ∀ {xs : List V} {us : List Value}, xs.length = us.length → (∀ (j : Nat) (x : V) (u : Value), xs[j]? = some x → us[j]? = some u → RelV x u) → Vals xs us
  | [], [], _, _ => .nil
  | [], _ :: _, h, _ => by cases h
  | _ :: _, [], h, _ => by cases h
  | x :: xs, u :: us, h, q => .cons (q 0 x u rfl rfl) (vals_by (Nat.succ.inj h) fun j y v a b => q (j + 1) y v a b)
theorem vals_sgns {z : Str} {acc : Array Value} (h : ItemsOf (SignAt z) acc z.cps.size) : Vals (sgns z) acc.toList := by
  have hn : acc.size = z.cps.size := h.1
  refine vals_by ?_ fun j x u a b => ?_
  · rw [sgns_len, Array.length_toList, hn]
    rfl
  · rw [Array.getElem?_toList] at b
    obtain ⟨c, t, e1, e2⟩ := h.2 j u b
    unfold sgns at a
    rw [List.getElem?_map, Array.getElem?_toList, e1] at a
    cases a
    subst e2
    exact ⟨_, rfl⟩
theorem call_listS (hc : X.calm = true) : CallR X (.type "list") (fun xs H Q => ∃ z : Str, xs = [.str z] ∧ z.length ≤ sizeLine ∧ ∀ p, H p = none → Q (.ref p) (upd H p (.lst (sgns z)))) := by
  intro pins s σ H xs us Q I r h
  obtain ⟨z, rfl, hz, q⟩ := h
  obtain ⟨u, rfl, rx⟩ := vals1 r
  obtain ⟨t, rfl⟩ := rx
  refine PySem.call_list_str (I.ok.hd hc) z t (fun h' tk acc' c' kp e ha => ?_) hz
  exact ⟨.ref s.heap.objs.size, _, I.laid (t' := tk) kp (Nat.le_refl _) (show ObjOk X.prog X.w _ h' _ (.lst (sgns z)) from ⟨by rw [sgns_len]; exact hz, acc'.toList, c', vals_sgns ha, e⟩), rfl, q _ (I.hok.fresh (Nat.le_refl _))⟩
/-! ### text * number -/
def repS (z : Str) (n : Nat) : Str := ⟨(List.replicate n z.cps.toList).flatten.toArray⟩
theorem foldl_repS (z : Array Nat) : ∀ (n : Nat) (a : Array Nat), (List.replicate n z).foldl (· ++ ·) a = a ++ (List.replicate n z.toList).flatten.toArray
  | 0, a => by simp
  | n + 1, a => by
    rw [List.replicate_succ, List.foldl_cons, foldl_repS z n (a ++ z), List.replicate_succ, List.flatten_cons]
    apply Array.ext'
    simp
theorem repS_eq (z : Str) (n : Nat) : (⟨(List.replicate n z.cps).foldl (· ++ ·) #[]⟩ : Str) = repS z n := by
  rw [foldl_repS]
  unfold repS
  simp
theorem repS_one (z : Str) : repS z 1 = z := by
  unfold repS
  simp
theorem repS_len (z : Str) (n : Nat) : (repS z n).length = n * z.length := by
  show (List.replicate n z.cps.toList).flatten.toArray.size = n * z.cps.size
  rw [List.size_toArray, List.length_flatten, List.map_replicate, List.sum_replicate_nat, Array.length_toList]
theorem op_repS : OpR X (binaryOp .Mult) (fun x y H Q => ∃ (z : Str) (n : Int), x = .str z ∧ y = .int n ∧ 1 ≤ n ∧ n ≤ 1000 ∧ z.length ≤ 1000 ∧ Q (.str (repS z n.toNat)) H) := by
  intro pins s σ H x y v u Q I rx ry h
  obtain ⟨z, n, rfl, rfl, h1, h2, hz, q⟩ := h
  obtain ⟨t, rfl⟩ := rx
  obtain ⟨t', rfl⟩ := ry
  have hlen : z.length * n.toNat ≤ 1000000 := Nat.le_trans (Nat.mul_le_mul hz (show n.toNat ≤ 1000 by omega)) (by decide)
  refine PySem.P.mul_str ?_ (fun _ _ => ?_) (fun _ _ => ?_) ?_
  · rw [decide_eq_false (show ¬ n < -(2 ^ 63 : Int) by omega), decide_eq_false (show ¬ n ≥ 2 ^ 63 by omega)]
    rfl
  · have : (1000 : Int) ≤ (2 ^ 63 - 1) / n := by
      rw [Int.le_ediv_iff_mul_le (by omega)]
      omega
    omega
  · exact decide_eq_false (by
      have e : (1000000 : Nat) ≤ sizeLine := by decide
      omega)
  · rw [if_neg (show ¬ n < 1 by omega)]
    by_cases hc : (n == 1 || z.length == 0) = true
    · rw [if_pos hc]
      have e : repS z n.toNat = z := by
        rw [Bool.or_eq_true] at hc
        rcases hc with hc | hc
        · have : n = 1 := eq_of_beq hc
          subst this
          exact repS_one z
        · have h0 : z.cps.size = 0 := eq_of_beq hc
          have : z.cps = #[] := Array.eq_empty_of_size_eq_zero h0
          unfold repS
          rw [this]
          obtain ⟨a⟩ := z
          have : a = #[] := this
          subst this
          congr 1
          apply Array.ext'
          simp
      rw [e] at q
      exact ⟨.str z, H, I, ⟨_, rfl⟩, q⟩
    · rw [if_neg hc, repS_eq]
      refine ⟨?_, .str _, H, I.tok _, ⟨_, rfl⟩, q⟩
      show (repS z n.toNat).length ≤ sizeLine
      rw [repS_len, Nat.mul_comm]
      exact Nat.le_trans hlen (by decide)
end
/-! ### one sign in a text: its first place -/
theorem idxOf_le {c : Nat} : ∀ {xs : List Nat} {i : Nat}, xs[i]? = some c → xs.idxOf c ≤ i
  | [], i, h => by simp at h
  | x :: xs, i, h => by
    rw [List.idxOf_cons]
    by_cases e : x = c
    · subst e
      simp
    · cases i with
      | zero =>
        simp at h
        exact absurd h e
      | succ i =>
        have := idxOf_le (xs := xs) (i := i) (by simpa using h)
        rw [show (x == c) = false from beq_eq_false_iff_ne.mpr e]
        show xs.idxOf c + 1 ≤ i + 1
        omega
theorem occ_sign {z : Str} {c : Nat} (h : c ∈ z.cps.toList) : ∃ r, Builtin.Str.occurrences z ⟨#[c]⟩ 0 z.length 1 = z.cps.toList.idxOf c :: r := by
  have key : ∀ i, StrLaws.At z ⟨#[c]⟩ z.length i ↔ z.cps.toList[i]? = some c := fun i => StrLaws.subAt_one z c i
  have hi : z.cps.toList.idxOf c < z.cps.toList.length := List.idxOf_lt_length_iff.mpr h
  have e0 : z.cps.toList[z.cps.toList.idxOf c]? = some c := by
    rw [List.getElem?_eq_getElem hi, List.getElem_idxOf]
  rcases StrLaws.occ_head z ⟨#[c]⟩ 1 (Nat.le_refl _) with ⟨_, hn⟩ | ⟨i, r, e, ha, hn⟩
  · exact absurd ((key _).mpr e0) (hn _)
  · refine ⟨r, ?_⟩
    rw [e]
    congr 1
    have a1 : ¬ z.cps.toList.idxOf c < i := fun q => hn _ q ((key _).mpr e0)
    have a2 := idxOf_le ((key i).mp ha)
    omega
theorem find_sign {z : Str} {c : Nat} (h : c ∈ z.cps.toList) : Txt.find z ⟨#[c]⟩ = (z.cps.toList.idxOf c : Nat) := by
  obtain ⟨r, e⟩ := occ_sign h
  unfold Txt.find
  rw [e]
/-! ### texts of signs -/
abbrev sg (c : Nat) : Str := ⟨#[c]⟩
abbrev vs_ (cs : List Nat) : List V := cs.map fun c => V.str (sg c)
theorem join_sg : ∀ cs : List Nat, Txt.join ⟨#[]⟩ (cs.map sg) = ⟨cs.toArray⟩ := fun cs => by
  rw [TL.join_eq]
  induction cs with
  | nil => rfl
  | cons c r ih =>
    cases r with
    | nil => rfl
    | cons d r =>
      show sg c ++ ⟨#[]⟩ ++ Str.join ⟨#[]⟩ ((d :: r).map sg) = _
      rw [ih]
      show (⟨(#[c] ++ #[]) ++ (d :: r).toArray⟩ : Str) = ⟨(c :: d :: r).toArray⟩
      congr 1
      apply Array.ext'
      simp
theorem risingS_sg : ∀ (cs : List Nat) (c : Nat), risingS (sg c) (cs.map sg) = true → (c :: cs).Pairwise (· ≤ ·)
  | [], c, _ => by simp
  | d :: r, c, h => by
    have h : (!ltCps [d] [c] && risingS (sg d) (r.map sg)) = true := h
    rw [Bool.and_eq_true] at h
    have ih := risingS_sg r d h.2
    have hcd : c ≤ d := by
      have := h.1
      simp [ltCps] at this
      exact this
    refine List.Pairwise.cons (fun x hx => ?_) ih
    rcases List.mem_cons.mp hx with rfl | hx
    · exact hcd
    · exact Nat.le_trans hcd (List.rel_of_pairwise_cons ih hx)
theorem sortedS_sg {cs : List Nat} (h : sortedS (cs.map sg) = true) : cs.Pairwise (· ≤ ·) := by
  cases cs with
  | nil => simp
  | cons c r => exact risingS_sg r c h
/-- what a sort of one-sign texts gives -/
theorem perm_sg {cs : List Nat} {ys : List Str} (h : ys.Perm (cs.map sg)) : ∃ ds : List Nat, ys = ds.map sg ∧ ds.Perm cs := by
  let f : Str → Nat := fun z => z.cps.getD 0 0
  have hm := h.map f
  rw [List.map_map, show f ∘ sg = id from rfl, List.map_id] at hm
  refine ⟨ys.map f, ?_, hm⟩
  rw [List.map_map]
  have : ∀ y ∈ ys, (sg ∘ f) y = y := fun y hy => by
    obtain ⟨c, _, rfl⟩ := List.mem_map.mp (h.mem_iff.mp hy)
    rfl
  conv => lhs; rw [← List.map_id ys]
  exact List.map_congr_left fun y hy => (this y hy).symm
structure IsLet (z : Str) : Prop where
  one : 1 ≤ z.length
  five : z.length ≤ 5
  rise : z.cps.toList.Pairwise (· < ·)
  small : ∀ c ∈ z.cps.toList, 97 ≤ c ∧ c ≤ 122
theorem rise_of {cs : List Nat} (h : cs.Pairwise (· ≤ ·)) (n : cs.Nodup) : cs.Pairwise (· < ·) := by
  have := List.Pairwise.and h n
  exact this.imp fun ⟨a, b⟩ => Nat.lt_of_le_of_ne a b
theorem mem_az {c : Nat} (h : c ∈ (List.range 26).map (97 + ·)) : 97 ≤ c ∧ c ≤ 122 := by
  obtain ⟨k, hk, rfl⟩ := List.mem_map.mp h
  have := List.mem_range.mp hk
  omega
theorem cutV_map {f : Nat → V} (cs : List Nat) (lo hi : Option Int) : cutV (cs.map f) lo hi = ((cs.drop (HT.sIx cs.length 0 lo)).take (HT.sIx cs.length cs.length hi - HT.sIx cs.length 0 lo)).map f := by
  unfold cutV
  rw [List.length_map, List.map_take, List.map_drop]
theorem cut_from (cs : List Nat) (g : Nat) : (cs.drop (HT.sIx cs.length 0 (some (g : Int)))).take (HT.sIx cs.length cs.length none - HT.sIx cs.length 0 (some (g : Int))) = cs.drop g := by
  rw [HT.sIx_nat, HT.sIx_none]
  by_cases h : g ≤ cs.length
  · rw [Nat.min_eq_left h, List.take_of_length_le (by rw [List.length_drop] <;> omega)]
  · rw [Nat.min_eq_right (by omega), List.drop_of_length_le (by omega), List.drop_of_length_le (by omega), List.take_nil]
theorem cut_to (cs : List Nat) (g : Nat) : (cs.drop (HT.sIx cs.length 0 none)).take (HT.sIx cs.length cs.length (some (g : Int)) - HT.sIx cs.length 0 none) = cs.take g := by
  rw [HT.sIx_nat, HT.sIx_none, Nat.sub_zero, List.drop_zero]
  by_cases h : g ≤ cs.length
  · rw [Nat.min_eq_left h]
  · rw [Nat.min_eq_right (by omega), List.take_of_length_le (Nat.le_refl _), List.take_of_length_le (by omega)]
theorem seqIx {i : Int} {n : Nat} (h0 : 0 ≤ i) (h1 : i < n) : seqIndex? i n = some i.toNat := by
  unfold seqIndex?
  have e : ¬ i < 0 := by omega
  simp [h0, h1, e]
theorem atI_of {xs : List V} {i : Int} {v : V} (h0 : 0 ≤ i) (h : xs[i.toNat]? = some v) : atI xs i = some v := at_of (j := i.toNat) (by omega) h
theorem erase_perm (ls : List Nat) (k : Nat) (h : k < ls.length) : ls.Perm (ls[k] :: ls.eraseIdx k) := by
  rw [List.eraseIdx_eq_take_drop_succ]
  conv => lhs; rw [← List.take_append_drop k ls, List.drop_eq_getElem_cons h]
  exact List.perm_middle
theorem sgns_az : sgns "abcdefghijklmnopqrstuvwxyz" = vs_ ((List.range 26).map (97 + ·)) := by decide +kernel
/-! ### the rules that speak of the written part, by a K of their own (so that they may stand within a comprehension) -/
section
variable {X : Cx} (K : PySem.W.Frag) (hK : X.K = K)
def rLenK : List V → Hp → VK → Prop := fun xs H Q => ∃ p ys, xs = [.ref p] ∧ (SqL K H p ys ∨ SqT K H p ys) ∧ Q (.int ys.length) H
def rListK : List V → Hp → VK → Prop := fun xs H Q => ∃ p ys, xs = [.ref p] ∧ (SqL K H p ys ∨ SqT K H p ys) ∧ ∀ l, H l = none → Q (.ref l) (upd H l (.lst ys))
def rTupleK : List V → Hp → VK → Prop := fun xs H Q => ∃ p ys, xs = [.ref p] ∧ ((SqL K H p ys ∧ ∀ l, H l = none → Q (.ref l) (upd H l (.tup ys))) ∨ (SqT K H p ys ∧ Q (.ref p) H))
def rJoinK : V → List V → Hp → VK → Prop := fun x xs H Q => ∃ a p, ∃ ys : List Str, x = .str a ∧ xs = [.ref p] ∧ (SqL K H p (ys.map V.str) ∨ SqT K H p (ys.map V.str)) ∧ (ys.map (·.length)).sum + ys.length * a.length ≤ 16777216 ∧ Q (.str (Txt.join a ys)) H
include hK
theorem ix_listK : IxR X (rIxL K) := by subst hK; exact ix_list
theorem ix_tupK : IxR X (rIxT K) := by subst hK; exact ix_tup
theorem sl_listK : SlR X (rSlL K) := by subst hK; exact sl_list
theorem sl_tupK : SlR X (rSlT K) := by subst hK; exact sl_tup
theorem op_in_seqK : OpR X (compareOp .In) (rIn K false) := by subst hK; exact op_in_seq
theorem op_notIn_seqK : OpR X (compareOp .NotIn) (rIn K true) := by subst hK; exact op_notIn_seq
theorem call_lenK : CallR X (.builtin "len") (rLenK K) := by subst hK; exact call_len_seq
theorem call_listK : CallR X (.type "list") (rListK K) := by subst hK; exact call_list_of
theorem call_tupleK : CallR X (.type "tuple") (rTupleK K) := by subst hK; exact call_tuple_of
theorem cr_sumK (hc : X.calm = true) : CallR X (.builtin "sum") (rSum K) := by subst hK; exact cr_sum hc
theorem cr_anyK (hc : X.calm = true) : CallR X (.builtin "any") (rAny K) := by subst hK; exact cr_any hc
theorem cr_allK (hc : X.calm = true) : CallR X (.builtin "all") (rAll K) := by subst hK; exact cr_all hc
theorem cr_sortedK : CallR X (.builtin "sorted") (rSorted K) := by subst hK; exact cr_sorted
theorem cr_sortedSK : CallR X (.builtin "sorted") (rSortedS K) := by subst hK; exact cr_sortedS
theorem call_isiK : CallR X (.builtin "isinstance") (rIsi K) := by subst hK; exact call_isi
theorem mt_joinK : MtR X "str.join" (rJoinK K) := by subst hK; exact mt_join
theorem pi_listK {tg l : Expr} {tl : TE} (hl : PE X l tl) : PI X tg l (iList K tl) := by subst hK; exact pi_list hl
theorem pi_tupK {tg l : Expr} {tl : TE} (hl : PE X l tl) : PI X tg l (iTup K tl) := by subst hK; exact pi_tup hl
theorem pe_revLK {e : Expr} {te : TE} {k : Nat} {p1 p2 p3 pos : Pos} (he : PE X e te) : PE X (.Subscript e (.Slice none none (some (.UnaryOp .USub (.Constant (.int 1) k p1) p2)) p3) pos) (tRevL K te) := by subst hK; exact pe_revL he
theorem pg_tupK {pos : Pos} {es : List Expr} {k : Nat} {t : TGs} {n : Nat} (hc : X.calm = true) (h : PGs X es t) (hn : (assignEach es X.env).length = n := by rfl) (hst : (assignEach es X.env).findIdx? (·.1) = none := by rfl) : PG X (.Tuple es k pos) (gTup K n t) := by subst hK; exact pg_tup hc h hn hst
theorem pe_bm0K {o : Expr} {to : TE} {name : Str} {ap cp : Pos} {T id : String} {r : V → List V → Hp → VK → Prop} (pa : PlainAttrs T) (sl : Slot T name id) (ty : typeOf (.builtin id) = pure (.type "method_descriptor")) (hm : MtR X id r) (ho : PE X o to) (h1 : attributeBase o name X.env (eval o X.env) = eval o X.env := by rfl) (h2 : (ap.endLine == cp.line) = true := by rfl) : PE X (.Call (.Attribute o name ap) [] [] cp) (tBM0 K T r to) := by subst hK; exact pe_bm0 pa sl ty hm ho h1 h2
theorem pe_bmK {o e : Expr} {es : List Expr} {to : TE} {t : TA} {name : Str} {ap cp : Pos} {T id : String} {r : V → List V → Hp → VK → Prop} (pa : PlainAttrs T) (sl : Slot T name id) (ty : typeOf (.builtin id) = pure (.type "method_descriptor")) (hm : MtR X id r) (ho : PE X o to) (ha : PA X (e :: es) t) (h1 : attributeBase o name X.env (eval o X.env) = eval o X.env := by rfl) (h2 : ((backTo cp (starEach (e :: es) X.env)).all (fun x => !x.1) && (backToKw cp (keywordEach [] X.env)).all (fun x => x.1.isSome) && decide ((e :: es).length + ([] : List Keyword).length + (if ([] : List Keyword).isEmpty then 0 else 1) < 30)) = true := by rfl) (h3 : (ap.endLine == cp.line) = true := by rfl) (h4 : starEach (e :: es) X.env = (false, eval e X.env) :: starEach es X.env := by rfl) (h5 : (backTo cp (starEach es X.env)).any (·.1) = false := by rfl) : PE X (.Call (.Attribute o name ap) (e :: es) [] cp) (tBM K T r to t) := by subst hK; exact pe_bm pa sl ty hm ho ha h1 h2 h3 h4 h5
end
/-- a comprehension's turn without a test -/
theorem lcyes {σ : L2.St} {H : Hp} {A B : Hp → Prop} (h : A H) : tYes σ H (fun b H3 => if b = true then A H3 else B H3) := by
  show (if true = true then A H else B H)
  rw [if_pos rfl]
  exact h
theorem vs_snoc (ys : List Nat) (c : Nat) : vs_ ys ++ [V.str (sg c)] = vs_ (ys ++ [c]) := by
  show _ = List.map _ (ys ++ [c])
  rw [List.map_append]
  rfl
theorem vs_erase : ∀ (ls : List Nat) (k : Nat), (vs_ ls).eraseIdx k = vs_ (ls.eraseIdx k)
  | [], _ => rfl
  | _ :: _, 0 => rfl
  | c :: r, k + 1 => by
    show V.str (sg c) :: (vs_ r).eraseIdx k = V.str (sg c) :: vs_ (r.eraseIdx k)
    rw [vs_erase r k]
end LH

namespace LH
open PySem PySem.Spec PyProof.Rows L2
/-! ### sets of texts: set(list), sorted(set) -/
/-- at a stands a set whose members are just the texts l, each once -/
def TSet (P : Program) (w : World) (a : Addr) (l : List Str) (h : Heap) : Prop :=
  l.Nodup ∧ ∃ D : Froz.SD, h.get? a = some (Froz.sObj "set" D) ∧ Froz.TxOk P w D l ∧ Ris D.2.2.place.toList ∧ (w.params.followText "set-order" = true ∨ D.2.2.led = true)
theorem TSet.at {P : Program} {w : World} {a : Addr} {l : List Str} {h h' : Heap} (T : TSet P w a l h) (k : ∀ o, h.get? a = some o → h'.get? a = some o) : TSet P w a l h' :=
  let ⟨n, D, e, r⟩ := T
  ⟨n, D, k _ e, r⟩
theorem tx_ris (x : Int) (v : Value) (D : Froz.SD) (r : Ris D.2.2.place.toList) : Ris (Froz.addTx x v D).2.2.place.toList ∧ (Froz.addTx x v D).2.2.led = D.2.2.led := by
  have r1 := layNew_ris D.2.2 D.1 x v r
  have l1 := layNew_led D.2.2 D.1 x v
  unfold Froz.addTx
  generalize layNew D.2.2 D.1 x v = Z at r1 l1 ⊢
  obtain ⟨es1, t1, wd, gv⟩ := Z
  dsimp only at r1 l1 ⊢
  have r2 : Ris (if t1.plain = true then { t1 with plain := false } else t1 : SetTable).place.toList ∧ (if t1.plain = true then { t1 with plain := false } else t1 : SetTable).led = D.2.2.led := by
    split
    · exact ⟨r1, l1⟩
    · exact ⟨r1, l1⟩
  generalize (if t1.plain = true then { t1 with plain := false } else t1 : SetTable) = t2 at r2 ⊢
  unfold Froz.tailTx
  split
  · exact ⟨relayAll_ris _ _ _, (relayAll_led _ _ _).trans r2.2⟩
  · exact r2
section
variable {P : Program} {w : World} {A : Around} {E : Value → Shared → Prop} {s : Shared}
/-- the add of a text that is in -/
theorem tx_old {a : Addr} {T : String} {D : Froz.SD} {l : List Str} {k : Str} {u : Tok} {Q : Bool → Shared → Prop} (ho : s.heap.get? a = some (Froz.sObj T D)) (F : Froz.TxOk P w D l) (hk : k ∈ l) (hb : l.length < scanBound) (h : Q false s) :
    wpAny (model P w) A (setAddHashed a (.str k u) (hashStr w k)) Q E s := by
  have hkey : (PySem.strKind P w).is k (.str k u) = true := Froz.is_str k u
  have hd : (Froz.sObj T D).data = .set D.1 D.2.1 D.2.2 := rfl
  have hsz : D.1.size < scanBound := by rw [F.sz]; exact hb
  obtain ⟨e, he, hm⟩ := (F.mem k).mp hk
  unfold setAddHashed setAddHashedIn
  refine wpAny_holding (wpAny_bind (wpAny_setState_of ho hd F.fit ?_))
  dsimp only
  rw [byScan_of (knd := PySem.strKind P w) rfl hsz F.el]
  simp only [↓reduceIte]
  unfold setAddByScan
  refine wpAny_bind (wpAny_bind (wpAny_rule (wpAny_bind (wpAny_setScan_of (knd := PySem.strKind P w) (k := k) hkey ho hd F.fit F.el ?_))))
  cases hf : List.findIdx? (fun e => (PySem.strKind P w).is k e.2) D.1.toList with
  | none =>
    have c := List.findIdx?_eq_none_iff.mp hf e he
    rw [hm] at c
    cases c
  | some j => exact wpAny_pure (wpAny_pure h)
/-- the members behind one more -/
def tAdd (l : List Str) (k : Str) : List Str := if k ∈ l then l else k :: l
theorem mem_tAdd {l : List Str} {k x : Str} : x ∈ tAdd l k ↔ x ∈ l ∨ x = k := by
  unfold tAdd
  split
  · rename_i h
    exact ⟨.inl, fun z => z.elim id fun e => e ▸ h⟩
  · rw [List.mem_cons]
    exact Or.comm
theorem tAdd_len (l : List Str) (k : Str) : (tAdd l k).length ≤ l.length + 1 := by
  unfold tAdd
  split
  · omega
  · exact Nat.le_refl _
theorem tx_add {a : Addr} {l : List Str} {k : Str} {u : Tok} {Q : Bool → Shared → Prop} (T : TSet P w a l s.heap) (hb : l.length + 1 < scanBound)
    (h : ∀ (b : Bool) (h' : Heap) (tk : Nat), s.toks ≤ tk → TSet P w a (tAdd l k) h' → (∀ c o, c ≠ a → s.heap.get? c = some o → h'.get? c = some o) → Q b { s with heap := h', toks := tk }) : wpAny (model P w) A (setAdd a (.str k u)) Q E s := by
  obtain ⟨nd, D, ho, F, r, hl⟩ := T
  unfold setAdd
  refine wpAny_holding (wpAny_bind ((PySem.strKind P w).pyHash (k := k) (Froz.is_str _ _) ?_))
  by_cases hk : k ∈ l
  · have e : tAdd l k = l := if_pos hk
    refine tx_old (s := { s with toks := s.toks + 1 }) (l := l) (D := D) ho F hk (by omega) ?_
    exact h false s.heap (s.toks + 1) (Nat.le_succ _) (by rw [e]; exact ⟨nd, D, ho, F, r, hl⟩) fun _ _ _ q => q
  · have e : tAdd l k = k :: l := if_neg hk
    refine Froz.add_x (s := { s with toks := s.toks + 1 }) (l := l) (D := D) ho F hk hb ?_
    obtain ⟨r1, l1⟩ := tx_ris (hashStr w k) (.str k u) D r
    refine h true _ (s.toks + 1) (Nat.le_succ _) ?_ fun c o hc q => Heap.get?_update_of_ne _ (Ne.symm hc) q
    rw [e]
    exact ⟨List.nodup_cons.mpr ⟨hk, nd⟩, _, Froz.get_upd _ ho rfl, Froz.add_ok u F, r1, by rw [l1]; exact hl⟩
end
/-- the members, when the texts were put in one by one -/
def tAll (xs : List Str) : List Str := xs.foldl tAdd []
theorem mem_foldl_tAdd {x : Str} : ∀ (xs l : List Str), x ∈ xs.foldl tAdd l ↔ x ∈ l ∨ x ∈ xs
  | [], l => by simp
  | k :: r, l => by
    rw [List.foldl_cons, mem_foldl_tAdd r, mem_tAdd, List.mem_cons]
    constructor
    · rintro ((q | q) | q)
      · exact .inl q
      · exact .inr (.inl q)
      · exact .inr (.inr q)
    · rintro (q | q | q)
      · exact .inl (.inl q)
      · exact .inl (.inr q)
      · exact .inr q
theorem mem_tAll {x : Str} {xs : List Str} : x ∈ tAll xs ↔ x ∈ xs := by
  unfold tAll
  rw [mem_foldl_tAdd]
  simp
theorem len_foldl_tAdd : ∀ (xs l : List Str), (xs.foldl tAdd l).length ≤ l.length + xs.length
  | [], l => by simp
  | k :: r, l => by
    have a := len_foldl_tAdd r (tAdd l k)
    have b := tAdd_len l k
    rw [List.foldl_cons, List.length_cons]
    omega
theorem tAll_len (xs : List Str) : (tAll xs).length ≤ xs.length := by
  have := len_foldl_tAdd xs []
  rw [List.length_nil, Nat.zero_add] at this
  exact this
theorem tAll_snoc (xs : List Str) (k : Str) : tAll (xs ++ [k]) = tAdd (tAll xs) k := by
  unfold tAll
  rw [List.foldl_append]
  rfl
section
variable {P : Program} {w : World} {A : Around} {R : Result → Shared → Prop} {I : Addr} {fp wr : List Addr} {G : Array GenState → Array GenState → Prop} {n : Nat} {Pv : Nat → Value → Prop} {St : Nat → Shared → Prop}
/-- the loop that puts what is walked into a set of texts -/
theorem tx_loop (W : WalksS P w A.in1 I fp wr G n Pv St) (S : Addr) (hS : S ∉ fp) (xs : List Str) (hn : xs.length = n) (hb : n + 1 < scanBound) (hv : ∀ i v, Pv i v → ∃ x t, xs[i]? = some x ∧ v = .str x t) :
    ∀ (k i : Nat) (s : Shared), n - i = k → i ≤ n → St i s → TSet P w S (tAll (xs.take i)) s.heap → (∀ s', Moved (S :: wr) G s s' → TSet P w S (tAll xs) s'.heap → R (.ok (.ret .none)) s') →
      codeAny (model P w) A (.builtin "set.update.loop" ⟨[.ref S, .ref I], []⟩) R s := by
  have hw : S ∉ wr := fun z => hS (W.sub _ z)
  have up : ∀ b ∈ wr, b ∈ S :: wr := fun b z => List.mem_cons_of_mem _ z
  intro k
  induction k with
  | zero =>
    intro i s hk hi st T hR
    obtain rfl : i = n := by omega
    rw [List.take_of_length_le (Nat.le_of_eq hn)] at T
    refine codeAny_builtin PyProof.Rows.F.entry_set_update_loop ?_
    rw [Around.under_plainId PyProof.Rows.F.plain_set_update_loop _]
    show wpAny _ A.in1 (pyNext (.ref I) >>= _) _ _ s
    refine wpAny_bind (W.done s _ _ st fun s' m => ?_)
    exact wpAny_pure (hR s' (m.mono up) (T.at fun o q => m.heap S o hw q))
  | succ k ih =>
    intro i s hk hi st T hR
    have lt : i < n := by omega
    refine codeAny_builtin PyProof.Rows.F.entry_set_update_loop ?_
    rw [Around.under_plainId PyProof.Rows.F.plain_set_update_loop _]
    show wpAny _ A.in1 (pyNext (.ref I) >>= _) _ _ s
    refine wpAny_bind (W.item i s _ _ lt st fun v s1 hP st1 m1 => ?_)
    obtain ⟨x, t, ex, rfl⟩ := hv i v hP
    have T1 : TSet P w S (tAll (xs.take i)) s1.heap := T.at fun o q => m1.heap S o hw q
    have room : (tAll (xs.take i)).length + 1 < scanBound := by
      have a := tAll_len (xs.take i)
      have b := List.length_take_le i xs
      omega
    show wpAny _ A.in1 (holding [Value.str x t] (setAdd S (.str x t)) >>= _) _ _ s1
    refine wpAny_bind (wpAny_holding (tx_add T1 room fun b h2 tk htk T2 k2 => ?_))
    have e : tAll (xs.take (i + 1)) = tAdd (tAll (xs.take i)) x := by
      rw [List.take_add_one, ex]
      exact tAll_snoc _ _
    rw [← e] at T2
    refine wpAny_pure ⟨plainId_quiet PyProof.Rows.F.plain_set_update_loop _, ih (i + 1) _ (by omega) lt (W.frame _ s1 _ _ st1 htk fun c hc o q => k2 c o (fun z => hS (z ▸ hc)) q) T2 fun s3 m3 T3 => ?_⟩
    exact hR s3 (Moved.trans W.gtrans ((m1.mono up).then_heap htk fun c o hc q => k2 c o (fun z => hc (z ▸ List.mem_cons_self)) q) m3) T3
end
end LH

namespace LH
open PySem PySem.Spec PyProof.Rows L2
/-- as many and the same members, of which one list has none twice -/
theorem perm_sub : ∀ (l m : List Str), l.Nodup → m.length = l.length → (∀ x ∈ l, x ∈ m) → m.Perm l
  | [], m, _, h, _ => by rw [List.length_eq_zero_iff.mp h]
  | x :: r, m, nd, h, hs => by
    obtain ⟨n1, n2⟩ := List.nodup_cons.mp nd
    have hx := hs x List.mem_cons_self
    refine (List.perm_cons_erase hx).trans (List.Perm.cons x (perm_sub r (m.erase x) n2 ?_ fun y hy => ?_))
    · rw [List.length_erase_of_mem hx, h]
      rfl
    · have hne : y ≠ x := fun e => n1 (e ▸ hy)
      exact (List.mem_erase_of_ne hne).mpr (hs y (List.mem_cons_of_mem _ hy))
theorem TSet.perm {l m : List Str} (nd : l.Nodup) (hl : m.length = l.length) (hm : ∀ x, x ∈ l ↔ x ∈ m) : m.Perm l := perm_sub l m nd hl fun x hx => (hm x).mp hx
/-- a new set -/
abbrev set0 (w : World) : Obj := { cls := .type "set", dict := none, data := .set #[] 0 (.fresh 0 0 (!w.params.followText "set-order")) }
section
variable {P : Program} {w : World} {A : Around} {E : Value → Shared → Prop} {s : Shared}
theorem set_made (a : Value) {Q₁ : Value → Shared → Prop} (h : Q₁ (.ref s.heap.objs.size) { s with heap := s.heap.push (set0 w) }) :
    codeAny (model P w) A (.call (.builtin "set.__new__") ⟨[.type "set", a], []⟩) (wants Q₁ E) s := by
  refine codeAny_of_tree ?_
  show wpAny _ A.in1 (checkBuiltinCall "set.__new__" ⟨[.type "set", a], []⟩ >>= fun _ => again (.builtin "set.__new__" ⟨[.type "set", a], []⟩)) _ _ s
  refine wpAny_bind (wpAny_of_eq (PySem.F.newCall_set_1 a) (wpAny_pure ⟨plainId_quiet PySem.F.plain_set_new _, codeAny_builtin PySem.F.entry_set_new ?_⟩))
  rw [Around.under_plainId PySem.F.plain_set_new _]
  unfold Builtin.«set.__new__» Builtin.Frozenset.newClass
  have sb := sub_set_self
  obtain ⟨hp, g, d, tk, os⟩ := s
  dsimp only
  wp_walk
  refine wpAny_askSetting (wpAny_pure ?_)
  dsimp only
  simp only [newObj]
  exact wpAny_bind (wpAny_alloc (wpAny_pure (wpAny_pure h)))
theorem tset_new {h h' : Heap} (e : h'.get? h.objs.size = some (set0 w)) : TSet P w h.objs.size [] h' :=
  ⟨List.nodup_nil, (#[], 0, .fresh 0 0 (!w.params.followText "set-order")), e, Froz.TxOk.nil (by rfl), List.Pairwise.nil, by
    show _ ∨ (!w.params.followText "set-order") = true
    cases w.params.followText "set-order"
    · exact .inr rfl
    · exact .inl rfl⟩
set_option maxHeartbeats 4000000 in
/-- set(xs) of a list of texts -/
theorem call_setT {l : Addr} {items : Array Value} {xs : List Str} {Q : Value → Shared → Prop} (hh : A.handled = none) (hl : s.heap.IsList l items) (hi : StrsAre items.toList xs) (hb : items.size + 1 < scanBound)
    (h : ∀ (h' : Heap) (tk : Nat), TSet P w s.heap.objs.size (tAll xs) h' → (∀ b o, b < s.heap.objs.size → s.heap.get? b = some o → h'.get? b = some o) → Q (.ref s.heap.objs.size) { s with heap := h', toks := tk }) :
    wpAny (model P w) A (call (.type "set") [.ref l]) Q E s := by
  obtain ⟨c, tl, hmro⟩ := PySem.F.called_set.mro
  have hmade := PySem.F.called_set.made
  have hsub := PySem.F.called_set.sub
  refine wpAny_call (codeAny_of_tree ?_)
  show wpAny _ _ (callAny (.type "set") _) _ _ _
  refine wpAny_pure ⟨Code.quiet_builtin _ (by decide +kernel), codeAny_builtin PySem.F.entry_type_call ?_⟩
  rw [Around.under_plain (weight_type_call_type "set" [.ref l] []) rfl]
  have h1 := PySem.F.called_set.notType
  have h2 := PySem.F.called_set.canCreate
  have hct := PySem.F.typeCall_set_1 (.ref l)
  repeat (any_goals (first | assumption | wp_step))
  refine codeAny_mono (set_made (.ref l) (E := E) (Q₁ := fun obj s₁ => obj = .ref s.heap.objs.size ∧ s₁ = { s with heap := s.heap.push (set0 w) }) ⟨rfl, rfl⟩) fun r s₁ hr => ?_
  cases r with
  | error e => exact hr
  | ok fl =>
    cases fl with
    | ret obj =>
      obtain ⟨rfl, rfl⟩ := hr
      have hS : (s.heap.push (set0 w)).get? s.heap.objs.size = some (set0 w) := Heap.get?_push_size _ rfl
      have hT : Shared.TypeIs { s with heap := s.heap.push (set0 w) } (.ref s.heap.objs.size) "set" := ⟨_, hS, rfl⟩
      have hli := PySem.F.called_set.init.lookup
      have hbi := PySem.F.called_set.init.bind (.ref s.heap.objs.size)
      repeat (any_goals (first | assumption | wp_step))
      refine codeAny_mono (codeAny_call_builtin (R := wants (fun r s₂ => r = .none ∧ ∃ h' tk, s₂ = { s with heap := h', toks := tk } ∧ TSet P w s.heap.objs.size (tAll xs) h' ∧
          (∀ b o, b < s.heap.objs.size → s.heap.get? b = some o → h'.get? b = some o)) E) PySem.F.called_set.init.plain PySem.F.entry_set_init (check_set_init_1 hT ?_)) fun r₂ s₂ hr₂ => ?_
      · obtain ⟨ol, hol, hcl, nl, hdl⟩ := hl
        obtain ⟨ocls, odict, odata, oslots⟩ := ol
        simp only at hcl hdl
        subst hcl
        subst hdl
        have hol' : (s.heap.push (set0 w)).get? l = some { cls := .type "list", dict := odict, data := .seq items nl, slots := oslots } := Heap.get?_push_of_some _ hol
        have hsls := PySem.F.sub_list_set
        have hslf := PySem.F.sub_list_frozenset
        have hne : (Value.type "list" == Value.type "dict") = false := by decide
        have hl1 : (s.heap.push (set0 w)).IsList l items := ⟨_, hol', rfl, nl, rfl⟩
        unfold Builtin.«set.__init__» noKeywords Builtin.Frozenset.updateFrom
        generalize hPI : pyIter = PI
        wp_walk
        subst hPI
        refine wpAny_pyIter_list hl1 (wpAny_bind (wpAny_runValue ?_))
        have lS : l < s.heap.objs.size := Heap.lt_size hol
        have eS : (s.heap.push (set0 w)).objs.size = s.heap.objs.size + 1 := Heap.size_push ..
        have neI : l ≠ (s.heap.push (set0 w)).objs.size := by
          rw [eS]
          exact Nat.ne_of_lt (Nat.lt_succ_of_lt lS)
        have out : s.heap.objs.size ∉ [(s.heap.push (set0 w)).objs.size, l] := fun z => by
          rcases List.mem_cons.mp z with z | z
          · rw [eS] at z
            exact absurd z (Nat.ne_of_lt (Nat.lt_succ_self _))
          · exact absurd (List.mem_singleton.mp z) (Nat.ne_of_gt lS)
        have hsz : xs.length = items.size := by rw [← StrsAre.len_eq hi, Array.length_toList]
        have hv : ∀ (i : Nat) (v : Value), items[i]? = some v → ∃ x t, xs[i]? = some x ∧ v = .str x t := fun i v q => by
          have hil : i < xs.length := by
            rw [hsz]
            exact (Array.getElem?_eq_some_iff.mp q).1
          obtain ⟨t, e⟩ := SS.strs_at hi i v (by rw [Array.getElem?_toList]; exact q)
          refine ⟨_, t, ?_, e⟩
          rw [List.getD_eq_getElem?_getD, List.getElem?_eq_getElem hil]
          rfl
        refine tx_loop ((Walks.list (by show A.in1.in1.in1.handled = none; simp [hh]) _ l neI items).toS) s.heap.objs.size out xs hsz hb hv items.size 0 _ (by omega) (Nat.zero_le _) ⟨⟨_, Heap.get?_push_size _ rfl, rfl, rfl⟩, hl1.push _⟩ ?tx1 ?tx2
        case tx1 => exact tset_new (h := s.heap) (Heap.get?_push_of_some _ hS)
        case tx2 =>
          intro s' m T
          obtain ⟨h', g', d', tk', os'⟩ := s'
          obtain rfl : g' = s.gens := m.gens
          obtain rfl : d' = s.drawn := m.drawn
          obtain rfl : os' = s.os := m.os
          refine wpAny_pure (wpAny_pure ⟨rfl, h', tk', rfl, T, fun b o q e => ?_⟩)
          refine m.heap b o (fun z => ?_) (Heap.get?_push_of_some _ (Heap.get?_push_of_some _ e))
          rcases List.mem_cons.mp z with z | z
          · exact absurd z (Nat.ne_of_lt q)
          · have z := List.mem_singleton.mp z
            rw [eS] at z
            exact absurd z (Nat.ne_of_lt (Nat.lt_succ_of_lt q))
      · cases r₂ with
        | error e => exact hr₂
        | ok fl₂ =>
          cases fl₂ with
          | ret r =>
            obtain ⟨rfl, h', tk, rfl, T, hk⟩ := hr₂
            repeat (any_goals (first | assumption | wp_step))
            exact h _ _ T hk
          | _ => exact hr₂.elim
    | _ => exact hr.elim
/-- sorted(found) of a set of texts -/
theorem call_sortedT {a : Addr} {l : List Str} {Q : Value → Shared → Prop} (T : TSet P w a l s.heap) (hh : A.handled = none) (hb : l.length < scanBound)
    (hQ : ∀ s' p (out : Array Value) (c : Nat) (ys : List Str), (∀ b o, s.heap.get? b = some o → s'.heap.get? b = some o) → s'.gens = s.gens → s'.os = s.os → s.heap.objs.size ≤ p →
      s'.heap.get? p = some (seqObj "list" out c) → StrsAre out.toList ys → ys.Perm l → sortedS ys = true → Q (.ref p) s') :
    wpAny (model P w) A (call (.builtin "sorted") [.ref a]) Q E s := by
  obtain ⟨nd, D, ho, F, r, hl⟩ := T
  have hsz : D.1.size < scanBound := by rw [F.sz]; exact hb
  refine Calls.call_function_entry kind_sorted plain_sorted entry_sorted (args_sorted1 _) ?_
  unfold Builtin.«sorted»
  refine wpAny_bind (m := checkCount "sorted" 1 1 _) (wpAny_pure ?_)
  refine wpAny_bind (collect_set (A := A.in1) (es := D.1) (ep := D.2.1) (t := D.2.2) hh ⟨_, ho, rfl, rfl⟩ F.fit hsz r hl fun s1 vs k1 hz g1 o1 pm => ?_)
  have all : ∀ v ∈ vs, ∃ x t, v = Value.str x t := fun v hv => by
    obtain ⟨e, he, rfl⟩ := List.mem_map.mp (pm.mem_iff.mp hv)
    obtain ⟨⟨k, hk, _⟩, _⟩ := F.el e he
    have hk : Value.isStrOf k e.2 = true := hk
    cases q : e.2 with
    | str x t => exact ⟨x, t, rfl⟩
    | _ =>
      rw [q] at hk
      cases hk
  have hS : StrsAre vs (vs.map strOf) := strsAre_map vs all
  have hvl : vs.length ≤ sizeLine := by
    rw [pm.length_eq, List.length_map, Array.length_toList]
    exact fits_of_scanBound hsz
  refine wpAny_bind (wpAny_newList ?_ hvl)
  have hoL : (s1.heap.push (seqObj "list" vs.toArray 0)).get? s1.heap.objs.size = some (seqObj "list" vs.toArray 0) := Heap.get?_push_size _ rfl
  refine wpAny_bind (wpAny_holding (wpAny_call_entry slot_list_sort ⟨_, hoL, rfl⟩ entry_list_sort (list_sort_treeKAny strKind_oneLt hoL hS.keysOf (fun v₁ v₂ rest e => keyKind_strs (by rw [← e]; exact hS)) hvl fun st' hp hs => ⟨_, rfl, ?_⟩) (args_list_sort _)))
  obtain ⟨ys, a1, a2, a3⟩ := sorted_out_str hS hp hs
  obtain ⟨c, hc⟩ := sortedHeap_at (vs := vs) (out := (arrOf st').map (·.2)) hoL
  refine wpAny_pure ⟨_, rfl, hQ _ s1.heap.objs.size _ c ys (fun b u e => ?_) g1 o1 hz hc a1 (a2.trans ?_) a3⟩
  · have q := k1 b u e
    have hlt := Heap.lt_size q
    refine (sortedHeap_old (Nat.ne_of_lt hlt) ?_).trans (Heap.get?_push_of_some _ q)
    exact Nat.lt_of_lt_of_eq (Nat.lt_succ_of_lt hlt) (size_push' ..).symm
  · -- the texts of the entries are just l
    have p1 : (vs.map strOf).Perm (D.1.toList.map fun e => strOf e.2) := by
      have q := pm.map strOf
      rw [List.map_map] at q
      exact q
    have key : ∀ e ∈ D.1.toList, ∀ k : Str, (PySem.strKind P w).is k e.2 = true ↔ strOf e.2 = k := fun e he k => by
      obtain ⟨⟨k0, hk0, _⟩, _⟩ := F.el e he
      have e0 : strOf e.2 = k0 := by
        have hk0 : Value.isStrOf k0 e.2 = true := hk0
        cases q : e.2 with
        | str x t =>
          rw [q] at hk0
          have : (x == k0) = true := by simpa [Value.isStrOf] using hk0
          exact eq_of_beq this
        | _ =>
          rw [q] at hk0
          cases hk0
      constructor
      · intro hk
        rw [e0]
        exact (PySem.strKind P w).inj e.2 k0 k hk0 hk
      · intro hk
        rw [← hk, e0]
        exact hk0
    refine p1.trans (TSet.perm nd ?_ fun x => ?_)
    · rw [List.length_map, Array.length_toList]
      exact F.sz
    · rw [F.mem x, List.mem_map]
      constructor
      · rintro ⟨e, he, q⟩
        exact ⟨e, he, (key e he x).mp q⟩
      · rintro ⟨e, he, q⟩
        exact ⟨e, he, (key e he x).mpr q⟩
end
end LH

namespace LH
open PySem PySem.Spec PyProof.Rows L2
/-- an expression that changes nothing, by its value -/
def tPure (t : TE) : TE := fun σ H Q => ∃ v, t σ H (fun x H' => x = v ∧ H' = H) ∧ Q v H
theorem pe_pure {X : Cx} {e : Expr} {t : TE} (h : PE X e t) : PE X e (tPure t) := by
  refine ⟨fun pins s σ H Q I q => ?_⟩
  obtain ⟨v, h1, h2⟩ := q
  refine thn (h.run pins s σ H _ I h1) fun u s1 ⟨x, H1, I1, r, e1, e2⟩ => ?_
  subst e1
  subst e2
  exact ⟨x, H1, I1, r, h2⟩
/-! ### a new pair at each turn -/
def Itp (n : Nat) (xs ys : Nat → Option V) : It := ⟨fun i _ => i < n, YPair xs ys, fun i _ => i = n⟩
theorem walk_Itp {n : Nat} {xs ys : Nat → Option V} : Walk (Itp n xs ys) n (fun _ => True) (YPair xs ys) := ⟨fun _ _ h _ => h, fun _ _ => rfl, fun _ _ _ _ _ _ y => y⟩
/-- a walk that hands out pairs of its own, as a turn -/
theorem turn_T {P : Program} {w : World} {K : PySem.W.Frag} {elts : List Expr} {kk n : Nat} {tpos : Pos} {xs ys : Nat → Option V} {it : Addr} {fp wr : List Addr} {Pt : Nat → Array Value → Prop} {St : Nat → Heap → Prop} {Mid : Nat → Addr → Heap → Prop}
    (W : ∀ A : Around, A.handled = none → WalksT P w A it fp wr n Pt St Mid) (hit : it ∈ fp) (ob : ∀ i h, St i h → ∀ b ∈ fp, ∃ o, h.get? b = some o ∧ ∀ v, o.data ≠ .cell v)
    (hp : ∀ i vals, Pt i vals → ∃ x y u v, vals = #[u, v] ∧ xs i = some x ∧ ys i = some y ∧ RelV x u ∧ RelV y v)
    (sf : ∀ (A : Around) (i : Nat) (s : Shared) (Q : Value → Shared → Prop) (E : Value → Shared → Prop), St i s.heap → Q (.ref it) s → wpAny (model P w) A (pyIter (.ref it)) Q E s) :
    Turn P w K (.Tuple elts kk tpos) (Itp n xs ys) fp it St where
  mem := hit
  obj := ob
  keep := fun i h h' st k => (W {} rfl).frame i h h' st k
  item := by
    intro X hP hw hK hc i pins s σ H E I hf st hg
    subst hP hw hK
    have W0 := W X.A (I.ok.hd hc)
    refine W0.item i s _ _ hg st fun T vals h1 tk hv hT tup mid k1 => ?_
    obtain ⟨x, y, u, v, rfl, ex, ey, rx, ry⟩ := hp i vals hv
    refine ⟨_, rfl, W0.go elts kk tpos i T _ _ _ mid fun h2 st2 k2 => ?_⟩
    have tup2 : h2.IsTuple T #[u, v] := tup.at fun o q => k2 T o (W0.apart i T h1 mid) q
    have I1 : Inv X pins σ (upd H T (.tup [x, y])) { s with heap := h2, toks := tk } :=
      I.turnedNew (ch := wr) (fun b o hb q => k2 b o hb (k1 b o hb q)) (fun b hb => hf b (W0.sub b hb)) hT ⟨by show 2 ≤ sizeLine; decide, [u, v], .cons rx (.cons ry .nil), tup2⟩
    refine ⟨.ref T, _, I1, rfl, ⟨T, x, y, rfl, I.hok.fresh hT, rfl, ex, ey⟩, st2, fun b hb => ?_⟩
    obtain ⟨o, q, _⟩ := ob i s.heap st b hb
    rw [upd_ne (Nat.ne_of_lt (Nat.lt_of_lt_of_le (Heap.lt_size q) hT))]
    exact (hf b hb).1
  done := by
    intro X hP hw hK hc i pins s σ H E I hf st hg
    subst hP hw hK
    have W0 := W X.A (I.ok.hd hc)
    obtain rfl : i = n := hg
    exact W0.done s _ _ st fun h1 tk k1 => ⟨rfl, I.turnedL (ch := wr) (fun b o hb q => k1 b o hb q) fun b hb => hf b (W0.sub b hb)⟩
  self := sf
/-! ### enumerate(text) -/
def signAt (z : Str) (i : Nat) : Option V := (z.cps[i]?).map fun c => .str ⟨#[c]⟩
def iEnumS (ta : TA) : TI := fun σ H R => ta σ H fun vs H1 => ∃ z : Str, vs = [.str z] ∧ R (Itp z.cps.size (fun i => some (.int (i : Nat))) (signAt z)) H1
theorem pi_enumS {X : Cx} {e : Expr} {ta : TA} {p pos tpos : Pos} {elts : List Expr} {kk : Nat} (hg : Gl X "enumerate") (hm : X.mg "enumerate" = none) (ha : PA X [e] ta) (hs : starEach [e] X.env = [(false, eval e X.env)] := by rfl) :
    PI X (.Tuple elts kk tpos) (.Call (.Name "enumerate" p) [e] [] pos) (iEnumS ta) := by
  refine ⟨fun pins s σ H R I h => ?_⟩
  refine Call_ (ld_blt I hg hm boot_enumerate (PyProof.Rows.callWith_type1 (thn (ha.run pos pins s σ H _ I h) fun us s1 ⟨vs, H1, I1, r1, q1⟩ => ?_) hs rfl))
  obtain ⟨z, ex, q⟩ := q1
  subst ex
  obtain ⟨u, rfl, rx⟩ := vals1 r1
  obtain ⟨t, rfl⟩ := rx
  refine call_enumerate_str fun h1 he hi hsz k1 => wpAny_pyIter_enum he ?_
  have I2 : Inv X pins σ H1 { s1 with heap := h1 } := I1.kept (t' := s1.toks) k1
  have hne : s1.heap.objs.size + 1 ≠ s1.heap.objs.size := Nat.succ_ne_self _
  refine ⟨s1.heap.objs.size + 1, [s1.heap.objs.size + 1, s1.heap.objs.size], _, _, H1, rfl, I2,
    turn_T (St := fun i h => (∃ old, IsEnum h (s1.heap.objs.size + 1) s1.heap.objs.size i old) ∧ h.IsStrIter s1.heap.objs.size (strIterType z) z t i)
      (fun A hA => WalksT.enumerateD (Draws.text (A := A.in1) hA s1.heap.objs.size z t) (s1.heap.objs.size + 1) hne (by simp) (by simp)) (by simp) (fun i h st b hb => ?_) (fun i vals hv => ?_) (fun A i s Q E st hQ => ?_), ⟨⟨.none, he⟩, hi⟩, fun b hb => ?_, q⟩
  · obtain ⟨⟨old, e1⟩, ⟨o, e2, c2, d2⟩⟩ := st
    have e' : b = s1.heap.objs.size + 1 ∨ b = s1.heap.objs.size := by simpa using hb
    rcases e' with y | y
    · rw [y]
      exact ⟨_, e1, fun v q => nomatch q⟩
    · rw [y]
      exact ⟨o, e2, fun v q => by rw [d2] at q; cases q⟩
  · obtain ⟨t', x, ⟨c, u, hc, rfl⟩, rfl⟩ := hv
    refine ⟨.int (i : Nat), .str ⟨#[c]⟩, _, _, rfl, rfl, ?_, ⟨_, rfl⟩, ⟨_, rfl⟩⟩
    unfold signAt
    rw [hc]
    rfl
  · obtain ⟨⟨old, e1⟩, _⟩ := st
    exact wpAny_pyIter_enum e1 hQ
  · have e' : b = s1.heap.objs.size + 1 ∨ b = s1.heap.objs.size := by simpa using hb
    have hle : s1.heap.objs.size ≤ b := by
      rcases e' with y | y
      · rw [y]
        exact Nat.le_add_right _ _
      · rw [y]
        exact Nat.le_refl _
    exact I1.fpOk hle (I1.hok.fresh hle)
/-! ### the set rules -/
/-- the set of the texts l at a -/
def SetT (P : Program) (w : World) (a : Addr) (l : List Str) : HO := .ext (TSet P w a l)
section
variable {X : Cx}
theorem setT_new {P : Program} {w : World} {H : Hp} {h : Heap} {a : Addr} {l : List Str} (T : TSet P w a l h) : ObjOk P w H h a (SetT P w a l) := by
  have ⟨_, D, e, _⟩ := T
  exact ⟨T, ⟨_, e⟩, fun h1 h2 p k => p.at k⟩
/-- set(xs), texts; the set stays nowhere but here -/
def rSetL (P : Program) (w : World) (K : PySem.W.Frag) : List V → Hp → VK → Prop := fun xs H Q => ∃ (a : Addr) (ys : List Str), xs = [.ref a] ∧ SqL K H a (ys.map V.str) ∧ ys.length ≤ 4000 ∧ ∀ p, H p = none → Q (.ref p) (upd H p (SetT P w p (tAll ys)))
theorem cr_setL (hc : X.calm = true) : CallR X (.type "set") (rSetL X.prog X.w X.K) := by
  intro pins s σ H xs us Q I r h
  obtain ⟨a, ys, rfl, hs, hl, q⟩ := h
  obtain ⟨its, rv, pl, _⟩ := I.list hs
  rw [Vals.ref1 r]
  have hlen := rv.length
  rw [List.length_map] at hlen
  refine call_setT (I.ok.hd hc) pl.isList (by simpa using rv.strs) (by rw [List.size_toArray, ← hlen]; unfold scanBound; omega) fun h1 tk T k1 => ?_
  refine ⟨.ref s.heap.objs.size, _, I.laid (t' := tk) (fun b o e => k1 b o (Heap.lt_size e) e) (Nat.le_refl _) (setT_new T), rfl, q _ (I.hok.fresh (Nat.le_refl _))⟩
/-- sorted(found) -/
def rSortT (P : Program) (w : World) : List V → Hp → VK → Prop := fun xs H Q => ∃ (a : Addr) (l : List Str), xs = [.ref a] ∧ H a = some (SetT P w a l) ∧ l.length ≤ 4000 ∧ ∀ ys p, ys.Perm l → sortedS ys = true → H p = none → Q (.ref p) (upd H p (.lst (ys.map V.str)))
theorem cr_sortT (hc : X.calm = true) : CallR X (.builtin "sorted") (rSortT X.prog X.w) := by
  intro pins s σ H vs us Q I r h
  obtain ⟨a, l, rfl, ha, hl, q⟩ := h
  have T : TSet X.prog X.w a l s.heap := (I.hok a _ ha).1
  rw [Vals.ref1 r]
  refine call_sortedT T (I.ok.hd hc) (by unfold scanBound; omega) fun s' p out c ys k g o hp hg hi pm hs => ?_
  have hlen : (ys.map V.str).length ≤ sizeLine := by
    rw [List.length_map, pm.length_eq]
    exact Nat.le_trans hl (by decide)
  have hn : H p = none := I.hok.fresh hp
  have J : Inv X pins σ (upd H p (.lst (ys.map V.str))) { s with heap := s'.heap, gens := s'.gens, drawn := s'.drawn, toks := s'.toks } :=
    I.call (ch := []) (Un.laid k hp hn) (I.hok.laid k hp ⟨hlen, out.toList, c, vals_of_strs hi, hg⟩) (by rw [g]; exact I.bare) (fun _ z => nomatch z)
  have e : s' = { s with heap := s'.heap, gens := s'.gens, drawn := s'.drawn, toks := s'.toks } := by
    cases s'
    cases s
    cases o
    rfl
  rw [e]
  exact ⟨.ref p, _, J, rfl, q ys p pm hs hn⟩
end
section
variable {X : Cx} (P : Program) (w : World) (K : PySem.W.Frag) (hP : X.prog = P) (hw : X.w = w) (hK : X.K = K) (hc : X.calm = true)
include hP hw hc
theorem cr_sortTK : CallR X (.builtin "sorted") (rSortT P w) := by subst hP hw; exact cr_sortT hc
include hK
theorem cr_setLK : CallR X (.type "set") (rSetL P w K) := by subst hP hw hK; exact cr_setL hc
end
/-! ### what is sorted and has no text twice is told by its members -/
theorem sortedS_pw : ∀ {l : List Str}, sortedS l = true → l.Pairwise fun a b => ltCps b.cps.toList a.cps.toList = false := by
  have tr : ∀ a b c : List Nat, ltCps b a = false → ltCps c b = false → ltCps c a = false := fun a b c h1 h2 => by
    rw [ltCps_eq] at h1 h2 ⊢
    have h1 := of_decide_eq_false h1
    have h2 := of_decide_eq_false h2
    exact decide_eq_false fun h => h1 (Std.lt_of_le_of_lt (Std.not_lt.mp h2) h)
  have go : ∀ (l : List Str) (p : Str), risingS p l = true → (p :: l).Pairwise fun a b => ltCps b.cps.toList a.cps.toList = false := by
    intro l
    induction l with
    | nil => intro p _; exact List.pairwise_singleton _ _
    | cons x r ih =>
      intro p h
      have h : (!ltCps x.cps.toList p.cps.toList && risingS x r) = true := h
      rw [Bool.and_eq_true] at h
      have i := ih x h.2
      have h1 : ltCps x.cps.toList p.cps.toList = false := by simpa using h.1
      refine List.Pairwise.cons (fun y hy => ?_) i
      rcases List.mem_cons.mp hy with rfl | hy
      · exact h1
      · exact tr _ _ _ h1 (List.rel_of_pairwise_cons i hy)
  intro l h
  cases l with
  | nil => exact List.Pairwise.nil
  | cons x r => exact go r x h
theorem sorted_one {l m : List Str} (h1 : sortedS l = true) (h2 : sortedS m = true) (p : l.Perm m) : l = m := by
  refine List.Perm.eq_of_pairwise (le := fun a b => ltCps b.cps.toList a.cps.toList = false) (fun a b _ _ q1 q2 => ?_) (sortedS_pw h1) (sortedS_pw h2) p
  rw [ltCps_eq] at q1 q2
  have q1 := of_decide_eq_false q1
  have q2 := of_decide_eq_false q2
  have e : a.cps.toList = b.cps.toList := Std.le_antisymm (Std.not_lt.mp q1) (Std.not_lt.mp q2)
  obtain ⟨⟨a⟩⟩ := a
  obtain ⟨⟨b⟩⟩ := b
  have e : a = b := e
  rw [e]
end LH

namespace LU
open PySem PySem.Spec PyProof.Rows
/-! ### dicts whose keys are None, numbers, texts and tuples of these, nested -/
abbrev Row3 := NestedKey × Value × Value
def ent (w : World) (x : Row3) : DictEntry := ⟨x.1.hash w, x.2.1, x.2.2⟩
structure UD (w : World) (h : Heap) (d : Addr) (xs : List Row3) (o : Obj) (es : Array DictEntry) (ep : Nat) : Prop where
  get : h.get? d = some o
  exact_ : o.ExactDict
  data : o.data = .dict es ep
  ents : es.toList = xs.map (ent w)
  keys : ∀ x ∈ xs, NestedIs h x.1 x.2.1 ∧ x.1.depth ≤ 8
  nd : (xs.map (·.1)).Nodup
def pos (xs : List Row3) (k : NestedKey) : Option Nat := xs.findIdx? fun x => decide (x.1 = k)
theorem pos_some {xs : List Row3} (nd : (xs.map (·.1)).Nodup) {i : Nat} {x : Row3} (h : xs[i]? = some x) : pos xs x.1 = some i := by
  unfold pos
  rw [List.findIdx?_eq_some_iff_getElem]
  obtain ⟨hi, e⟩ := List.getElem?_eq_some_iff.mp h
  refine ⟨hi, by rw [e]; exact decide_eq_true rfl, fun j hj => ?_⟩
  have hjl : j < xs.length := Nat.lt_trans hj hi
  intro q
  have q : xs[j].1 = x.1 := of_decide_eq_true q
  have a1 : (xs.map (·.1))[j]? = some x.1 := by rw [List.getElem?_map, List.getElem?_eq_getElem hjl, Option.map_some, q]
  have a2 : (xs.map (·.1))[i]? = some x.1 := by rw [List.getElem?_map, h]; rfl
  have := (List.getElem?_inj (by rw [List.length_map]; exact hjl) nd).mp (a1.trans a2.symm)
  omega
theorem pos_none {xs : List Row3} {k : NestedKey} (h : ∀ x ∈ xs, ¬ x.1 = k) : pos xs k = none := List.findIdx?_eq_none_iff.mpr fun x hx => decide_eq_false (h x hx)
section
variable {prog : Program} {w : World} {A : Around} {E : Value → Shared → Prop} {s : Shared} {d : Addr} {xs : List Row3} {o : Obj} {es : Array DictEntry} {ep : Nat} {k : NestedKey} {key : Value}
theorem UD.at_ {h : Heap} (u : UD w h d xs o es ep) (j : Nat) : es[j]? = (xs[j]?).map (ent w) := by
  rw [← Array.getElem?_toList, u.ents, List.getElem?_map]
theorem UD.size {h : Heap} (u : UD w h d xs o es ep) : es.size = xs.length := by
  rw [← Array.length_toList, u.ents, List.length_map]
/-- where a key of this hash may stand -/
abbrev plc (es : Array DictEntry) (h : Int) : List Nat := placesWithHash es.size (fun i => es[i]?.map (·.hash)) h
theorem mem_plc {h : Heap} (u : UD w h d xs o es ep) {j : Nat} {x : Row3} (e : xs[j]? = some x) : j ∈ plc es (x.1.hash w) := by
  refine List.mem_filter.mpr ⟨List.mem_range.mpr ?_, ?_⟩
  · rw [u.size]
    exact (List.getElem?_eq_some_iff.mp e).1
  · show ((es[j]?.map (·.hash)) == some (x.1.hash w)) = true
    rw [u.at_, e]
    exact beq_self_eq_true _
theorem nd_plc (es : Array DictEntry) (h : Int) : (plc es h).Nodup := List.nodup_range.filter _
/-- the way through the places, all by value -/
theorem walk_plain {Q : Option Nat → Shared → Prop} (hu : A.units + 8 < cLine) (u : UD w s.heap d xs o es ep) (hk : NestedIs s.heap k key) (hd8 : k.depth ≤ 8) (h : Q (pos xs k) s) :
    wpAny (model prog w) A (dictWalkPlain d key (k.hash w) es (plc es (k.hash w))) Q E s := by
  unfold dictWalkPlain
  refine wpAny_bind ?_
  refine wpAny_forIn_list _ (fun rest b s' => s' = s ∧ b = (none, ()) ∧ ∀ (j : Nat) (x : Row3), xs[j]? = some x → x.1 = k → j ∈ rest) _ ?_ ?_ _ _ ⟨rfl, rfl, fun j x e ek => by rw [← ek]; exact mem_plc u e⟩
  · rintro i rest b s' ⟨rfl, rfl, hr⟩
    rw [u.at_]
    cases hx : xs[i]? with
    | none =>
      refine wpAny_pure ⟨rfl, rfl, fun j x e ek => ?_⟩
      rcases List.mem_cons.mp (hr j x e ek) with rfl | q
      · rw [hx] at e
        cases e
      · exact q
    | some y =>
      have on : ¬ y.1 = k → ∀ (j : Nat) (x : Row3), xs[j]? = some x → x.1 = k → j ∈ rest := fun ne j x e ek => by
        rcases List.mem_cons.mp (hr j x e ek) with rfl | q
        · rw [hx] at e
          cases e
          exact absurd ek ne
        · exact q
      dsimp only [Option.map_some]
      by_cases hh : ((ent w y).hash == k.hash w) = true
      · rw [if_pos hh]
        have hy := u.keys y (List.mem_of_getElem? hx)
        refine wpAny_bind (wpAny_dictEpoch u.get u.data (wpAny_bind (eqAt_key y.1 k A s' _ _ hy.1 hk (by omega) _ _ _ _ (wpAny_bind (wpAny_dictEpoch u.get u.data ?_)))))
        show wpAny _ _ (if (ep != ep) = true then _ else _) _ E _
        rw [if_neg (by simp), ← NestedKey.decide_eq]
        by_cases e : y.1 = k
        · rw [decide_eq_true e]
          subst e
          rw [pos_some u.nd hx] at h
          exact wpAny_bind (wpAny_rule (wpAny_pure (wpAny_pure h)))
        · rw [decide_eq_false e]
          exact wpAny_bind (wpAny_rule (wpAny_pure ⟨rfl, rfl, on e⟩))
      · rw [if_neg hh]
        refine wpAny_pure ⟨rfl, rfl, on fun e => hh ?_⟩
        show (y.1.hash w == k.hash w) = true
        rw [e]
        exact beq_self_eq_true _
  · rintro b s' ⟨rfl, rfl, hr⟩
    rw [pos_none fun x hx e => ?_] at h
    · exact wpAny_pure h
    · obtain ⟨j, hj⟩ := List.mem_iff_getElem?.mp hx
      cases hr j x hj e
end
end LU
namespace LU
open PySem PySem.Spec PyProof.Rows
section
variable {prog : Program} {w : World} {A : Around} {E : Value → Shared → Prop} {s : Shared} {d : Addr} {xs : List Row3} {o : Obj} {es : Array DictEntry} {ep : Nat} {k : NestedKey} {key : Value}
theorem fi_congr {p q : Row3 → Bool} : ∀ {xs : List Row3}, (∀ x ∈ xs, p x = q x) → xs.findIdx? p = xs.findIdx? q
  | [], _ => rfl
  | x :: r, h => by
    rw [List.findIdx?_cons, List.findIdx?_cons, h x List.mem_cons_self, fi_congr fun y hy => h y (List.mem_cons_of_mem _ hy)]
theorem found_val {x : Str} {t : Tok} {Q : Option Nat → Shared → Prop} (hu : A.units + 8 < cLine) (u : UD w s.heap d xs o es ep) (hs : ∀ y ∈ xs, isExactStrKey y.2.1 = true) (h : Q (pos xs (.text x)) s) :
    wpAny (model prog w) A (foundByValue d (.str x t) es x) Q E s := by
  have same : ∀ y ∈ xs, y.2.1.isStr x = decide (y.1 = .text x) := fun y hy => by
    have a := hs y hy
    have b := (u.keys y hy).1
    obtain ⟨k', v', z⟩ := y
    cases b with
    | text x' t' =>
      by_cases e : x' = x
      · subst e
        simp [Value.isStr]
      · have : ¬ NestedKey.text x' = NestedKey.text x := fun q => e (by injection q)
        rw [decide_eq_false this]
        simp [Value.isStr, e]
    | none => simp [isExactStrKey] at a
    | bool _ => simp [isExactStrKey] at a
    | int _ _ => simp [isExactStrKey] at a
    | tup _ _ _ _ => simp [isExactStrKey] at a
  have fi : (es.findIdx? fun e => e.key.isStr x) = pos xs (.text x) := by
    have : es.findIdx? (fun e => e.key.isStr x) = es.toList.findIdx? fun e => e.key.isStr x := by
      obtain ⟨l⟩ := es
      simp
    rw [this, u.ents, List.findIdx?_map]
    unfold pos
    exact fi_congr same
  unfold foundByValue
  rw [fi]
  cases hp : pos xs (.text x) with
  | none =>
    rw [hp] at h
    exact wpAny_pure h
  | some i =>
    rw [hp] at h
    obtain ⟨hi, e, _⟩ := List.findIdx?_eq_some_iff_getElem.mp hp
    have e : xs[i].1 = .text x := of_decide_eq_true e
    have hx : xs[i]? = some xs[i] := List.getElem?_eq_getElem hi
    dsimp only
    rw [u.at_, hx]
    have hy := u.keys _ (List.mem_of_getElem? hx)
    refine wpAny_bind (wpAny_dictEpoch u.get u.data (wpAny_bind (eqAt_key _ (.text x) A s _ _ hy.1 (.text x t) (by show A.units + min _ 0 < cLine; omega) _ _ _ _ (wpAny_bind (wpAny_dictEpoch u.get u.data ?_)))))
    show wpAny _ _ (if (ep != ep) = true then _ else _) _ E _
    rw [if_neg (by simp), ← NestedKey.decide_eq, decide_eq_true e]
    exact wpAny_bind (wpAny_rule (wpAny_pure h))
theorem may_tell {stored : List Value} {Q : Bool → Shared → Prop} (hk : NestedIs s.heap k key) (hd8 : k.depth ≤ 8) (hst : ∀ v ∈ stored, ∃ k', NestedIs s.heap k' v ∧ k'.depth ≤ 8) (h : Q false s) :
    wpAny (model prog w) A (tableMayTell key stored) Q E s := by
  unfold tableMayTell
  split
  · exact wpAny_pure h
  · refine wpAny_bind (quiet_key k key 8 s hk hd8 _ _ _ ?_)
    rw [Bool.not_true, if_neg Bool.false_ne_true]
    refine wpAny_bind ?_
    refine wpAny_forIn_list _ (fun rest b s' => s' = s ∧ b = (none, ()) ∧ ∀ v ∈ rest, v ∈ stored) _ ?_ ?_ _ _ ⟨rfl, rfl, fun _ q => q⟩
    · rintro v rest b s' ⟨rfl, rfl, hr⟩
      obtain ⟨k', a1, a2⟩ := hst v (hr v List.mem_cons_self)
      refine wpAny_bind (quiet_key k' v 8 s' a1 a2 _ _ _ ?_)
      rw [Bool.not_true, if_neg Bool.false_ne_true]
      exact wpAny_pure ⟨rfl, rfl, fun u q => hr u (List.mem_cons_of_mem _ q)⟩
    · rintro b s' ⟨rfl, rfl, _⟩
      exact wpAny_pure h
/-- a key is looked for -/
theorem find_u {Q : Option Nat → Shared → Prop} (hu : A.units + 8 < cLine) (u : UD w s.heap d xs o es ep) (hk : NestedIs s.heap k key) (hd8 : k.depth ≤ 8) (h : Q (pos xs k) s) :
    wpAny (model prog w) A (dictFind d key (k.hash w)) Q E s := by
  have row : ∀ e ∈ es, ∃ x ∈ xs, e = ent w x := fun e he => by
    have := Array.mem_toList_iff.mpr he
    rw [u.ents] at this
    obtain ⟨x, hx, q⟩ := List.mem_map.mp this
    exact ⟨x, hx, q.symm⟩
  have st : ∀ v ∈ (plc es (k.hash w)).filterMap (fun i => es[i]?.map (·.key)), ∃ k', NestedIs s.heap k' v ∧ k'.depth ≤ 8 := fun v hv => by
    obtain ⟨i, _, hi⟩ := List.mem_filterMap.mp hv
    rw [u.at_] at hi
    cases hx : xs[i]? with
    | none =>
      rw [hx] at hi
      cases hi
    | some x =>
      rw [hx] at hi
      have := u.keys x (List.mem_of_getElem? hx)
      cases hi
      exact ⟨x.1, this⟩
  have noch : ¬ (es.any fun e => e.key == key && e.hash != k.hash w) = true := fun z => by
    obtain ⟨e, he, q⟩ := Array.any_eq_true'.mp z
    obtain ⟨x, hx, rfl⟩ := row e he
    rw [Bool.and_eq_true, beq_iff_eq, bne_iff_ne] at q
    have a := (u.keys x hx).1
    rw [show x.2.1 = key from q.1] at a
    exact q.2 (congrArg (fun z => NestedKey.hash w z) (NestedIs.inj _ _ _ a hk))
  unfold dictFind
  with_reducible refine wpAny_holding ?_
  refine wpAny_bind (wpAny_dictEntries u.get u.data ?_)
  dsimp only
  have val : (key :: (plc es (k.hash w)).filterMap fun i => es[i]?.map (·.key)).all carriedByValue = true → wpAny (model prog w) A (dictWalkPlain d key (k.hash w) es (plc es (k.hash w))) Q E s := fun _ => walk_plain hu u hk hd8 h
  by_cases ex : ∃ x t, key = .str x t ∧ (es.all fun e => isExactStrKey e.key) = true
  · obtain ⟨x, t, rfl, a⟩ := ex
    dsimp only
    rw [if_pos a]
    cases hk
    refine found_val hu u (fun y hy => ?_) h
    rw [← Array.all_toList, List.all_eq_true] at a
    exact a (ent w y) (by rw [u.ents]; exact List.mem_map.mpr ⟨y, hy, rfl⟩)
  have step1 : ∀ (F : Str → Sem (Option Nat)) (G : Sem (Option Nat)), wpAny (model prog w) A G Q E s → wpAny (model prog w) A (match key with | .str x _ => if (es.all fun e => isExactStrKey e.key) = true then F x else G | _ => G) Q E s := fun F G q => by
    split
    · rw [if_neg fun a => ex ⟨_, _, rfl, a⟩]
      exact q
    · exact q
  refine step1 (fun x => foundByValue d key es x) _ ?_
  by_cases hall : (key :: (plc es (k.hash w)).filterMap fun i => es[i]?.map (·.key)).all carriedByValue = true
  · rw [if_pos hall]
    exact val hall
  rw [if_neg hall]
  have step2 : ∀ (F G : Sem (Option Nat)), wpAny (model prog w) A G Q E s → wpAny (model prog w) A (match key with | .ref _ => if (es.any fun e => e.key == key && e.hash != k.hash w) = true then F else G | _ => G) Q E s := fun F G q => by
    split
    · rw [if_neg noch]
      exact q
    · exact q
  refine step2 _ _ ?_
  by_cases one : (((plc es (k.hash w)).filterMap fun i => es[i]?.map (·.key)) == [key]) = true <;>
  (first | rw [if_pos one] | rw [if_neg one]) <;> (first | refine wpAny_bind (wpAny_pure ?_) | refine wpAny_bind (may_tell hk hd8 st ?_)) <;> (
    rw [if_neg (by simp)]
    refine wpAny_bind ?_
    refine wpAny_forIn_list _ (fun rest b s' => s' = s ∧ rest.Nodup ∧ ∃ hit, b = (none, hit) ∧ ((hit = none ∧ ∀ (j : Nat) (x : Row3), xs[j]? = some x → x.1 = k → j ∈ rest) ∨ ∃ j x, hit = some j ∧ xs[j]? = some x ∧ x.1 = k ∧ j ∉ rest)) _ ?_ ?_ _ _ ⟨rfl, nd_plc _ _, none, rfl, .inl ⟨rfl, fun j x e ek => by rw [← ek]; exact mem_plc u e⟩⟩
    · rintro i rest b s' ⟨rfl, ndr, hit, rfl, hr⟩
      obtain ⟨ni, ndr⟩ := List.nodup_cons.mp ndr
      have on : (∀ y, xs[i]? = some y → ¬ y.1 = k) → ((hit = none ∧ ∀ (j : Nat) (x : Row3), xs[j]? = some x → x.1 = k → j ∈ rest) ∨ ∃ j x, hit = some j ∧ xs[j]? = some x ∧ x.1 = k ∧ j ∉ rest) := fun ne => by
        rcases hr with ⟨a, b⟩ | ⟨j, x, a, b, c, e⟩
        · refine .inl ⟨a, fun j x e ek => ?_⟩
          rcases List.mem_cons.mp (b j x e ek) with rfl | q
          · exact absurd ek (ne x e)
          · exact q
        · exact .inr ⟨j, x, a, b, c, fun z => e (List.mem_cons_of_mem _ z)⟩
      rw [u.at_]
      cases hx : xs[i]? with
      | none => exact wpAny_pure ⟨rfl, ndr, hit, rfl, on fun y e => by rw [hx] at e; cases e⟩
      | some y =>
        dsimp only [Option.map_some]
        by_cases hh : ((ent w y).hash == k.hash w) = true
        · rw [if_pos hh]
          have hy := u.keys y (List.mem_of_getElem? hx)
          refine wpAny_bind (wpAny_dictEpoch u.get u.data (wpAny_bind (eqAt_key y.1 k A s' _ _ hy.1 hk (by omega) _ _ _ _ (wpAny_bind (wpAny_dictEpoch u.get u.data ?_)))))
          show wpAny _ _ (if (ep != ep) = true then _ else _) _ E _
          rw [if_neg (by simp), ← NestedKey.decide_eq]
          by_cases e : y.1 = k
          · rw [decide_eq_true e]
            subst e
            have h0 : hit = none := by
              rcases hr with ⟨a, _⟩ | ⟨j, x, a, b, c, e⟩
              · exact a
              · exfalso
                have e1 := pos_some u.nd b
                have e2 := pos_some u.nd hx
                rw [c, e2] at e1
                cases e1
                exact e List.mem_cons_self
            subst h0
            rw [if_pos rfl, if_neg (by simp)]
            refine wpAny_bind (wpAny_rule ?_)
            split
            · rw [pos_some u.nd hx] at h
              exact wpAny_pure (wpAny_pure h)
            · exact wpAny_pure ⟨rfl, ndr, some i, rfl, .inr ⟨i, y, rfl, hx, rfl, ni⟩⟩
          · rw [decide_eq_false e, if_neg Bool.false_ne_true]
            refine wpAny_bind (wpAny_rule ?_)
            rw [if_neg (by simp)]
            exact wpAny_pure ⟨rfl, ndr, hit, rfl, on fun y' e' => by rw [hx] at e'; cases e'; exact e⟩
        · rw [if_neg hh]
          refine wpAny_pure ⟨rfl, ndr, hit, rfl, on fun y' e' ek => hh ?_⟩
          rw [hx] at e'
          cases e'
          show (y.1.hash w == k.hash w) = true
          rw [ek]
          exact beq_self_eq_true _
    · rintro b s' ⟨rfl, _, hit, rfl, hr⟩
      rcases hr with ⟨rfl, b⟩ | ⟨j, x, rfl, b, c, _⟩
      · rw [pos_none fun x hx e => ?_] at h
        · exact wpAny_pure h
        · obtain ⟨j, hj⟩ := List.mem_iff_getElem?.mp hx
          cases b j x hj e
      · subst c
        rw [pos_some u.nd b] at h
        exact wpAny_pure h)
end
end LU
namespace LU
open PySem PySem.Spec PyProof.Rows
def valU (xs : List Row3) (k : NestedKey) : Option Value := (pos xs k).bind fun i => (xs[i]?).map (·.2.2)
def setU (xs : List Row3) (k : NestedKey) (key v : Value) : List Row3 :=
  match pos xs k with
  | some i => xs.modify i fun x => (x.1, x.2.1, v)
  | none => xs ++ [(k, key, v)]
theorem pos_is {xs : List Row3} {k : NestedKey} {i : Nat} (h : pos xs k = some i) : ∃ x, xs[i]? = some x ∧ x.1 = k := by
  obtain ⟨hi, e, _⟩ := List.findIdx?_eq_some_iff_getElem.mp h
  exact ⟨_, List.getElem?_eq_getElem hi, of_decide_eq_true e⟩
section
variable {prog : Program} {w : World} {A : Around} {E : Value → Shared → Prop} {s : Shared} {d : Addr} {xs : List Row3} {o : Obj} {es : Array DictEntry} {ep : Nat} {k : NestedKey} {key : Value}
theorem keys_on {h h' : Heap} {x : NestedKey × Value} (u : UD w h d xs o es ep) (hs : Heap.SameBut d h h') (q : NestedIs h x.1 x.2 ∧ x.1.depth ≤ 8) : NestedIs h' x.1 x.2 ∧ x.1.depth ≤ 8 := by
  refine ⟨NestedIs.at (fun b ob vs n hb hc => ?_) _ _ q.1, q.2⟩
  by_cases e : b = d
  · subst e
    rw [u.get] at hb
    cases hb
    rw [u.data] at hc
    cases hc
  · exact (hs.2 b e).trans hb
theorem get_u {Q : Option Value → Shared → Prop} (hu : A.units + 8 < cLine) (u : UD w s.heap d xs o es ep) (hk : NestedIs s.heap k key) (hd8 : k.depth ≤ 8) (h : Q (valU xs k) { s with toks := s.toks + k.draws }) : wpAny (model prog w) A (dictGet d key) Q E s := by
  unfold dictGet
  with_reducible refine wpAny_holding ?_
  refine wpAny_bind (pyHash_key k key A s _ hk (by omega) (wpAny_bind (find_u (s := { s with toks := s.toks + k.draws }) hu u hk hd8 ?_)))
  unfold valU at h
  cases hp : pos xs k with
  | none =>
    rw [hp] at h
    exact wpAny_pure h
  | some i =>
    rw [hp] at h
    obtain ⟨x, hx, _⟩ := pos_is hp
    refine wpAny_bind (wpAny_dictEntries (s := { s with toks := s.toks + k.draws }) u.get u.data ?_)
    rw [u.at_, hx]
    rw [Option.bind_some, hx] at h
    exact wpAny_pure h
theorem UD.type {s : Shared} (u : UD w s.heap d xs o es ep) : s.TypeIs (.ref d) "dict" := ⟨o, u.get, u.exact_.1⟩
theorem set_u {v : Value} {Q : Unit → Shared → Prop} (hu : A.units + 8 < cLine) (u : UD w s.heap d xs o es ep) (hk : NestedIs s.heap k key) (hd8 : k.depth ≤ 8) (hsz : xs.length ≤ sizeLine)
    (h : ∀ h' o' es' ep', UD w h' d (setU xs k key v) o' es' ep' → Heap.SameBut d s.heap h' → Q () { s with heap := h', toks := s.toks + k.draws }) : wpAny (model prog w) A (dictSet d key v) Q E s := by
  unfold dictSet
  with_reducible refine wpAny_holding ?_
  refine wpAny_bind (pyHash_key k key A s _ hk (by omega) ?_)
  unfold dictSetHashed
  with_reducible refine wpAny_holding ?_
  refine wpAny_bind (find_u (s := { s with toks := s.toks + k.draws }) hu u hk hd8 ?_)
  cases hp : pos xs k with
  | none =>
    refine wpAny_bind (wpAny_rule (wpAny_updateDictKeys (hz := by have e := u.size; omega) (s := { s with toks := s.toks + k.draws }) u.get u.data (h _ _ _ (ep + 1) ⟨Heap.get?_update_self _ u.get (Obj.isFreed_of_dict (Obj.data_mapDictKeys u.data _)), u.exact_.mapDictKeys _, Obj.data_mapDictKeys u.data _, ?_, ?_, ?_⟩ (Heap.SameBut.update ..))))
    all_goals unfold setU
    all_goals rw [hp]
    · rw [Array.toList_push, u.ents, List.map_append]
      rfl
    · intro x hx
      rcases List.mem_append.mp hx with q | q
      · exact keys_on (x := (x.1, x.2.1)) u (Heap.SameBut.update ..) (u.keys x q)
      · rw [List.mem_singleton.mp q]
        exact keys_on (x := (k, key)) u (Heap.SameBut.update ..) ⟨hk, hd8⟩
    · show ((xs ++ [(k, key, v)]).map (·.1)).Nodup
      rw [List.map_append]
      refine List.nodup_append.mpr ⟨u.nd, by simp, fun a ha b hb e => ?_⟩
      rw [List.map_singleton, List.mem_singleton] at hb
      obtain ⟨x, hx, rfl⟩ := List.mem_map.mp ha
      have := List.findIdx?_eq_none_iff.mp hp x hx
      exact absurd (e.trans hb) (of_decide_eq_false this)
  | some i =>
    obtain ⟨x, hx, hxk⟩ := pos_is hp
    refine wpAny_bind (wpAny_rule (wpAny_bind (wpAny_updateDict (s := { s with toks := s.toks + k.draws }) u.get u.data (wpAny_point (h _ _ _ ep ⟨Heap.get?_update_self _ u.get (Obj.isFreed_of_dict (Obj.data_mapDict u.data _)), u.exact_.mapDict _, Obj.data_mapDict u.data _, ?_, ?_, ?_⟩ (Heap.SameBut.update ..))))))
    all_goals unfold setU
    all_goals rw [hp]
    · refine List.ext_getElem? fun j => ?_
      rw [Array.toList_modify, u.ents, List.getElem?_map, List.getElem?_modify, List.getElem?_modify, List.getElem?_map]
      cases xs[j]? with
      | none => rfl
      | some y =>
        by_cases e : i = j
        · simp [e, ent]
        · simp [e, ent]
    · intro y hy
      obtain ⟨j, hj⟩ := List.mem_iff_getElem?.mp hy
      rw [List.getElem?_modify] at hj
      cases hz : xs[j]? with
      | none =>
        rw [hz] at hj
        cases hj
      | some z =>
        rw [hz] at hj
        have kz : ∀ f : Obj → Obj, NestedIs (s.heap.update d f) z.1 z.2.1 ∧ z.1.depth ≤ 8 := fun f => keys_on (x := (z.1, z.2.1)) u (Heap.SameBut.update _ _ f) (u.keys z (List.mem_of_getElem? hz))
        by_cases e : i = j
        · simp [e] at hj
          subst hj
          exact kz _
        · simp [e] at hj
          subst hj
          exact kz _
    · have : ((xs.modify i fun x => (x.1, x.2.1, v)).map (·.1)) = xs.map (·.1) := by
        refine List.ext_getElem? fun j => ?_
        rw [List.getElem?_map, List.getElem?_map, List.getElem?_modify]
        cases xs[j]? with
        | none => rfl
        | some y =>
          by_cases e : i = j
          · simp [e]
          · simp [e]
      show ((xs.modify i fun x => (x.1, x.2.1, v)).map (·.1)).Nodup
      rw [this]
      exact u.nd
/-- key in d -/
theorem in_u {Q : Value → Shared → Prop} (hu : A.in1.units + 8 < cLine) (hd : (d == sysModules) = false) (u : UD w s.heap d xs o es ep) (hk : NestedIs s.heap k key) (hd8 : k.depth ≤ 8)
    (h : Q (.bool (valU xs k).isSome) { s with toks := s.toks + k.draws }) : wpAny (model prog w) A (compareOp .In key (.ref d)) Q E s := by
  show wpAny _ _ (do return .bool (← contains (.ref d) key)) Q E s
  refine wpAny_bind ?_
  unfold contains
  with_reducible refine wpAny_holding ?_
  refine wpAny_bind (wpAny_specialOf u.type slot_dict_contains.lookup ?_)
  show wpAny _ _ (if (some (Value.builtin "dict.__contains__") == some Value.none) = true then _ else _) _ E s
  rw [if_neg (by rw [beq_builtin_none]; exact Bool.false_ne_true)]
  refine wpAny_bind (wpAny_callSpecialUnlessNone?_slot (name := Str.ofString "__contains__") u.type slot_dict_contains (wpAny_call_entry slot_dict_contains u.type entry_dict_contains ?_ (args_dict_contains _ _)))
  show wpAny _ _ (dictGet d key >>= _) _ _ s
  refine wpAny_bind (get_u hu u hk hd8 ?_)
  cases hf : valU xs k with
  | some p =>
    rw [hf] at h
    show wpAny _ _ (ret (.bool true)) _ _ _
    exact wpAny_pure ⟨_, rfl, wpAny_truthy_bool (wpAny_pure h)⟩
  | none =>
    rw [hf] at h
    show wpAny _ _ (Builtin.Dict.pendingKey? d key >>= _) _ _ _
    exact wpAny_bind (wpAny_pendingKey_other hd (wpAny_pure ⟨_, rfl, wpAny_truthy_bool (wpAny_pure h)⟩))
/-- key not in d -/
theorem notIn_u {Q : Value → Shared → Prop} (hu : A.in1.units + 8 < cLine) (hd : (d == sysModules) = false) (u : UD w s.heap d xs o es ep) (hk : NestedIs s.heap k key) (hd8 : k.depth ≤ 8)
    (h : Q (.bool (!(valU xs k).isSome)) { s with toks := s.toks + k.draws }) : wpAny (model prog w) A (compareOp .NotIn key (.ref d)) Q E s := by
  show wpAny _ _ (do return .bool (!(← contains (.ref d) key))) Q E s
  refine wpAny_bind ?_
  unfold contains
  with_reducible refine wpAny_holding ?_
  refine wpAny_bind (wpAny_specialOf u.type slot_dict_contains.lookup ?_)
  show wpAny _ _ (if (some (Value.builtin "dict.__contains__") == some Value.none) = true then _ else _) _ E s
  rw [if_neg (by rw [beq_builtin_none]; exact Bool.false_ne_true)]
  refine wpAny_bind (wpAny_callSpecialUnlessNone?_slot (name := Str.ofString "__contains__") u.type slot_dict_contains (wpAny_call_entry slot_dict_contains u.type entry_dict_contains ?_ (args_dict_contains _ _)))
  show wpAny _ _ (dictGet d key >>= _) _ _ s
  refine wpAny_bind (get_u hu u hk hd8 ?_)
  cases hf : valU xs k with
  | some p =>
    rw [hf] at h
    show wpAny _ _ (ret (.bool true)) _ _ _
    exact wpAny_pure ⟨_, rfl, wpAny_truthy_bool (wpAny_pure h)⟩
  | none =>
    rw [hf] at h
    show wpAny _ _ (Builtin.Dict.pendingKey? d key >>= _) _ _ _
    exact wpAny_bind (wpAny_pendingKey_other hd (wpAny_pure ⟨_, rfl, wpAny_truthy_bool (wpAny_pure h)⟩))
/-- d[key] -/
theorem item_u {v : Value} {Q : Value → Shared → Prop} (hu : A.in1.units + 8 < cLine) (u : UD w s.heap d xs o es ep) (hk : NestedIs s.heap k key) (hd8 : k.depth ≤ 8) (hv : valU xs k = some v)
    (h : Q v { s with toks := s.toks + k.draws }) : wpAny (model prog w) A (getItem (.ref d) key) Q E s := by
  unfold getItem
  with_reducible refine wpAny_holding ?_
  refine wpAny_bind (wpAny_sequenceKey u.type (by decide) ?_)
  refine wpAny_bind (wpAny_callSpecial?_slot (name := Str.ofString "__getitem__") u.type slot_dict_getitem (wpAny_call_entry slot_dict_getitem u.type entry_dict_getitem ?_ (args_dict_getitem _ _)))
  show wpAny _ _ (dictGet d key >>= _) _ _ s
  refine wpAny_bind (get_u hu u hk hd8 ?_)
  rw [hv]
  exact wpAny_pure ⟨v, rfl, wpAny_pure h⟩
/-- d[key] = v -/
theorem setItem_u {v : Value} {Q : Unit → Shared → Prop} (hu : A.in1.units + 8 < cLine) (u : UD w s.heap d xs o es ep) (hk : NestedIs s.heap k key) (hd8 : k.depth ≤ 8) (hsz : xs.length ≤ sizeLine)
    (h : ∀ h' o' es' ep', UD w h' d (setU xs k key v) o' es' ep' → Heap.SameBut d s.heap h' → Q () { s with heap := h', toks := s.toks + k.draws }) : wpAny (model prog w) A (setItem (.ref d) key v) Q E s := by
  unfold setItem
  with_reducible refine wpAny_holding ?_
  refine wpAny_bind (wpAny_sequenceKey u.type (by decide) ?_)
  refine wpAny_bind (wpAny_callSpecial?_slot (name := Str.ofString "__setitem__") u.type slot_dict_setitem (wpAny_call_entry slot_dict_setitem u.type entry_dict_setitem ?_ (args_dict_setitem _ _ _)))
  show wpAny _ _ (Builtin.Dict.notOrdered "__setitem__" ⟨[.ref d, key, v], []⟩ >>= _) _ _ s
  refine wpAny_bind (wpAny_notOrdered_dict u.type ?_)
  show wpAny _ _ (dictSet d key v >>= _) _ _ s
  exact wpAny_bind (set_u hu u hk hd8 hsz fun h' o' es' ep' a b => wpAny_pure ⟨.none, rfl, wpAny_pure (h h' o' es' ep' a b)⟩)
end
end LU

namespace LU
open PySem PySem.Spec PyProof.Rows L2
/-! ### the same over the abstract heap -/
mutual
inductive NV (H : Hp) : NestedKey → V → Prop
  | none : NV H .none .non
  | num (i : Int) : NV H (.num i) (.int i)
  | text (x : Str) : NV H (.text x) (.str x)
  | tup {a : Addr} {vs : List V} {ks : List NestedKey} : H a = some (.tup vs) → NVs H ks vs → NV H (.tup ks) (.ref a)
inductive NVs (H : Hp) : List NestedKey → List V → Prop
  | nil : NVs H [] []
  | cons {k : NestedKey} {v : V} {ks : List NestedKey} {vs : List V} : NV H k v → NVs H ks vs → NVs H (k :: ks) (v :: vs)
end
mutual
theorem NV.mono {H H' : Hp} (t : ∀ b xs, H b = some (.tup xs) → H' b = some (.tup xs)) : ∀ {k : NestedKey} {v : V}, NV H k v → NV H' k v
  | _, _, .none => .none
  | _, _, .num i => .num i
  | _, _, .text x => .text x
  | _, _, .tup h q => .tup (t _ _ h) (NVs.mono t q)
theorem NVs.mono {H H' : Hp} (t : ∀ b xs, H b = some (.tup xs) → H' b = some (.tup xs)) : ∀ {ks : List NestedKey} {vs : List V}, NVs H ks vs → NVs H' ks vs
  | _, _, .nil => .nil
  | _, _, .cons a b => .cons (NV.mono t a) (NVs.mono t b)
end
mutual
theorem NV.is {P : Program} {w : World} {H : Hp} {h : Heap} (ok : HOk P w H h) : ∀ {k : NestedKey} {v : V}, NV H k v → ∀ {u : Value}, RelV v u → NestedIs h k u
  | _, _, .none, u, r => by
    obtain rfl : u = Value.none := r
    exact .none
  | _, _, .num i, u, r => by
    obtain ⟨t, rfl⟩ : ∃ t, u = Value.int i t := r
    exact .int i t
  | _, _, .text x, u, r => by
    obtain ⟨t, rfl⟩ : ∃ t, u = Value.str x t := r
    exact .text x t
  | _, _, .tup (a := a) hh q, u, r => by
    obtain rfl : u = Value.ref a := r
    obtain ⟨_, its, rv, o, h1, h2, n, h3⟩ := (show ObjOk P w H h a (.tup _) from ok a _ hh)
    exact .tup h1 h2 h3 (by simpa using NVs.is ok q rv)
theorem NVs.is {P : Program} {w : World} {H : Hp} {h : Heap} (ok : HOk P w H h) : ∀ {ks : List NestedKey} {vs : List V}, NVs H ks vs → ∀ {us : List Value}, Vals vs us → NestedAll h ks us
  | _, _, .nil, us, r => by
    cases r
    exact .nil
  | _, _, .cons a b, us, r => by
    cases r with
    | cons r1 r2 => exact .cons (NV.is ok a r1) (NVs.is ok b r2)
end
/-- a dict's rows: key, what was handed in as key, what stands there -/
abbrev Trio := NestedKey × V × V
abbrev RR : List Trio → List Row3 → Prop := Paired fun (p : Trio) (q : Row3) => p.1 = q.1 ∧ RelV p.2.1 q.2.1 ∧ RelV p.2.2 q.2.2
def UO (w : World) (d : Addr) (xs : List Trio) : HO := .ext fun h => xs.length ≤ sizeLine ∧ (d == sysModules) = false ∧ ∃ rs : List Row3, RR xs rs ∧ ∃ o es ep, h.get? d = some o ∧ o.ExactDict ∧ o.data = .dict es ep ∧ es.toList = rs.map (ent w) ∧ (rs.map (·.1)).Nodup
abbrev kvOf (xs : List Trio) : List (NestedKey × V) := xs.map fun x => (x.1, x.2.2)
/-- at d stands a dict with these keys and things -/
def UAt (w : World) (H : Hp) (d : Addr) (kvs : List (NestedKey × V)) : Prop := ∃ xs, H d = some (UO w d xs) ∧ (∀ x ∈ xs, NV H x.1 x.2.1 ∧ x.1.depth ≤ 8) ∧ kvOf xs = kvs
theorem UAt.mono {w : World} {H H' : Hp} {d : Addr} {kvs : List (NestedKey × V)} (u : UAt w H d kvs) (t : ∀ b xs, H b = some (.tup xs) → H' b = some (.tup xs)) (e : ∀ o, H d = some o → H' d = some o) : UAt w H' d kvs := by
  obtain ⟨xs, a, b, c⟩ := u
  exact ⟨xs, e _ a, fun x hx => ⟨(b x hx).1.mono t, (b x hx).2⟩, c⟩
theorem UAt.same {w : World} {H H' : Hp} {d : Addr} {kvs : List (NestedKey × V)} (u : UAt w H d kvs) (s : Same H H') : UAt w H' d kvs := u.mono (fun b xs h => s b _ h) fun o h => s d o h
theorem UAt.ne {w : World} {H : Hp} {d b : Addr} {kvs : List (NestedKey × V)} {o : HO} (u : UAt w H d kvs) (h : H b = some o) (no : ∀ φ, o ≠ .ext φ) : d ≠ b := by
  obtain ⟨xs, a, _, _⟩ := u
  rintro rfl
  rw [h] at a
  exact no _ (Option.some.inj a)
theorem UAt.ne_none {w : World} {H : Hp} {d b : Addr} {kvs : List (NestedKey × V)} (u : UAt w H d kvs) (h : H b = none) : d ≠ b := by
  obtain ⟨xs, a, _, _⟩ := u
  exact ne_of_none a h
theorem RR.len {xs : List Trio} {rs : List Row3} (r : RR xs rs) : xs.length = rs.length := Paired.length r
theorem RR.keys {xs : List Trio} {rs : List Row3} (r : RR xs rs) : xs.map (·.1) = rs.map (·.1) := by
  induction r with
  | nil => rfl
  | cons h t ih => rw [List.map_cons, List.map_cons, ih, h.1]
theorem RR.at_ {xs : List Trio} {rs : List Row3} (r : RR xs rs) : ∀ {i : Nat} {y : Row3}, rs[i]? = some y → ∃ x, xs[i]? = some x ∧ x.1 = y.1 ∧ RelV x.2.1 y.2.1 ∧ RelV x.2.2 y.2.2 := by
  induction r with
  | nil => intro i y e; simp at e
  | @cons p q ps qs h t ih =>
    intro i y e
    cases i with
    | zero =>
      cases e
      exact ⟨p, rfl, h⟩
    | succ i => exact ih (by simpa using e)
section
variable {P : Program} {w : World} {H : Hp} {h : Heap} {d : Addr} {kvs : List (NestedKey × V)}
theorem UAt.ud (u : UAt w H d kvs) (ok : HOk P w H h) : ∃ (xs : List Trio) (rs : List Row3) (o : Obj) (es : Array DictEntry) (ep : Nat), H d = some (UO w d xs) ∧ (∀ x ∈ xs, NV H x.1 x.2.1 ∧ x.1.depth ≤ 8) ∧ kvOf xs = kvs ∧ xs.length ≤ sizeLine ∧ (d == sysModules) = false ∧ RR xs rs ∧ UD w h d rs o es ep := by
  obtain ⟨xs, a, b, c⟩ := u
  obtain ⟨⟨z, hd, rs, rr, o, es, ep, h1, h2, h3, h4, h5⟩, _, _⟩ := (show ObjOk P w H h d (UO w d xs) from ok d _ a)
  refine ⟨xs, rs, o, es, ep, a, b, c, z, hd, rr, ⟨h1, h2, h3, h4, fun y hy => ?_, h5⟩⟩
  obtain ⟨i, hi⟩ := List.mem_iff_getElem?.mp hy
  obtain ⟨x, hx, e1, e2, _⟩ := rr.at_ hi
  obtain ⟨n1, n2⟩ := b x (List.mem_of_getElem? hx)
  rw [← e1]
  exact ⟨n1.is ok e2, n2⟩
theorem RR.val {xs : List Trio} {rs : List Row3} (r : RR xs rs) (k : NestedKey) : RelO (valV (kvOf xs) k) (valU rs k) := by
  have aux : ∀ {xs : List Trio} {rs : List Row3}, RR xs rs → RelO (valV (kvOf xs) k) ((rs.find? fun x => decide (x.1 = k)).map (·.2.2)) := by
    intro xs rs r
    induction r with
    | nil => exact True.intro
    | @cons p q ps qs h t ih =>
      obtain ⟨h1, _, h3⟩ := h
      by_cases e : p.1 = k
      · have e' : q.1 = k := h1.symm.trans e
        show RelO (valV ((p.1, p.2.2) :: kvOf ps) k) _
        rw [valV_pos (p := (p.1, p.2.2)) e, List.find?_cons, decide_eq_true e']
        exact h3
      · have e' : ¬ q.1 = k := fun z => e (h1.trans z)
        show RelO (valV ((p.1, p.2.2) :: kvOf ps) k) _
        rw [valV_neg (p := (p.1, p.2.2)) e, List.find?_cons, decide_eq_false e']
        exact ih
  have : valU rs k = (rs.find? fun x => decide (x.1 = k)).map (·.2.2) := by
    unfold valU pos
    clear r aux
    induction rs with
    | nil => rfl
    | cons y r ih =>
      rw [List.findIdx?_cons, List.find?_cons]
      by_cases e : y.1 = k
      · rw [decide_eq_true e]
        rfl
      · rw [decide_eq_false e]
        dsimp only
        rw [← ih]
        cases List.findIdx? (fun x => decide (x.1 = k)) r with
        | none => rfl
        | some j => rfl
  rw [this]
  exact aux r
/-- the rows behind a store -/
def putX (xs : List Trio) (k : NestedKey) (y v : V) : List Trio :=
  if (xs.any fun x => decide (x.1 = k)) = true then xs.map (fun x => if x.1 = k then (x.1, x.2.1, v) else x) else xs ++ [(k, y, v)]
theorem putX_kv (xs : List Trio) (k : NestedKey) (y v : V) : kvOf (putX xs k y v) = putK (kvOf xs) k v := by
  unfold putX putK
  rw [List.any_map]
  by_cases e : (xs.any fun x => decide (x.1 = k)) = true
  · rw [if_pos e, if_pos (show (xs.any ((fun kv : NestedKey × V => decide (kv.1 = k)) ∘ fun x : Trio => (x.1, x.2.2))) = true from e)]
    unfold kvOf
    rw [List.map_map, List.map_map]
    refine List.map_congr_left fun x _ => ?_
    show (((if x.1 = k then (x.1, x.2.1, v) else x) : Trio).1, ((if x.1 = k then (x.1, x.2.1, v) else x) : Trio).2.2) = if x.1 = k then (x.1, v) else (x.1, x.2.2)
    split <;> rfl
  · rw [if_neg e, if_neg (show ¬ (xs.any ((fun kv : NestedKey × V => decide (kv.1 = k)) ∘ fun x : Trio => (x.1, x.2.2))) = true from e)]
    unfold kvOf
    rw [List.map_append]
    rfl
theorem RR.put {xs : List Trio} {rs : List Row3} (r : RR xs rs) (nd : (rs.map (·.1)).Nodup) (k : NestedKey) {y v : V} {u z : Value} (ry : RelV y u) (rv : RelV v z) : RR (putX xs k y v) (setU rs k u z) := by
  unfold putX setU
  cases hp : pos rs k with
  | none =>
    have : ¬ (xs.any fun x => decide (x.1 = k)) = true := fun q => by
      obtain ⟨x, hx, e⟩ := List.any_eq_true.mp q
      have m : x.1 ∈ xs.map (·.1) := List.mem_map.mpr ⟨x, hx, rfl⟩
      rw [r.keys] at m
      obtain ⟨y', hy', e'⟩ := List.mem_map.mp m
      have := List.findIdx?_eq_none_iff.mp hp y' hy'
      exact absurd (e'.trans (of_decide_eq_true e)) (of_decide_eq_false this)
    rw [if_neg this]
    exact Paired.snoc r ⟨rfl, ry, rv⟩
  | some i =>
    obtain ⟨q, hq, ek⟩ := pos_is hp
    obtain ⟨x, hx, e1, _, _⟩ := r.at_ hq
    rw [if_pos (List.any_eq_true.mpr ⟨x, List.mem_of_getElem? hx, decide_eq_true (e1.trans ek)⟩)]
    dsimp only
    have e : (rs.modify i fun x => (x.1, x.2.1, z)) = rs.map fun x => if x.1 = k then (x.1, x.2.1, z) else x := by
      refine List.ext_getElem? fun j => ?_
      rw [List.getElem?_modify, List.getElem?_map]
      cases hj : rs[j]? with
      | none => rfl
      | some t =>
        by_cases c : i = j
        · subst c
          rw [hq] at hj
          cases hj
          simp [ek]
        · have : ¬ t.1 = k := fun w' => c (by
            have a1 := pos_some nd hj
            rw [w', hp] at a1
            exact Option.some.inj a1)
          simp [c, this]
    rw [e]
    clear e hp hq hx
    induction r with
    | nil => exact .nil
    | @cons p q ps qs h t ih =>
      obtain ⟨h1, h2, h3⟩ := h
      rw [List.map_cons, List.map_cons]
      refine .cons ?_ (ih (List.nodup_cons.mp nd).2)
      by_cases c : p.1 = k
      · rw [if_pos c, if_pos (h1.symm.trans c)]
        exact ⟨h1, h2, rv⟩
      · rw [if_neg c, if_neg fun w' => c (h1.trans w')]
        exact ⟨h1, h2, h3⟩
end
end LU
namespace LU
open PySem PySem.Spec PyProof.Rows L2
section
variable {X : Cx} {pins : List (Addr × Obj)} {σ : L2.St} {H : Hp} {s : Shared} {a : Addr} {kvs : List (NestedKey × V)} {k : NestedKey} {y v : V} {u z : Value} {E : Value → Shared → Prop}
theorem uo_ok {P : Program} {w : World} {H : Hp} {h : Heap} {d : Addr} {xs : List Trio} {rs : List Row3} {o : Obj} {es : Array DictEntry} {ep : Nat} (hl : xs.length ≤ sizeLine) (hd : (d == sysModules) = false) (r : RR xs rs) (q : UD w h d rs o es ep) : ObjOk P w H h d (UO w d xs) := by
  refine ⟨⟨hl, hd, rs, r, o, es, ep, q.get, q.exact_, q.data, q.ents, q.nd⟩, ⟨o, q.get⟩, fun h1 h2 p e => ?_⟩
  obtain ⟨a, b, rs', r', o', es', ep', c, t⟩ := p
  exact ⟨a, b, rs', r', o', es', ep', e _ c, t⟩
theorem u_in {Q : Value → Shared → Prop} (hu : X.A.units + 64 < cLine) (I : Inv X pins σ H s) (g : UAt X.w H a kvs) (n : NV H k y) (hd : k.depth ≤ 8) (ry : RelV y u) (h : ∀ s', Inv X pins σ H s' → Q (.bool (valV kvs k).isSome) s') :
    wpAny (model X.prog X.w) X.A (compareOp .In u (.ref a)) Q E s := by
  obtain ⟨xs, rs, o, es, ep, _, _, c, _, hs, rr, ud⟩ := g.ud I.hok
  refine in_u (by rw [Around.in1_units]; omega) hs ud (n.is I.hok ry) hd ?_
  have e := (rr.val k).isSome_eq
  rw [c] at e
  rw [← e]
  exact h _ (I.tok _)
theorem u_notIn {Q : Value → Shared → Prop} (hu : X.A.units + 64 < cLine) (I : Inv X pins σ H s) (g : UAt X.w H a kvs) (n : NV H k y) (hd : k.depth ≤ 8) (ry : RelV y u) (h : ∀ s', Inv X pins σ H s' → Q (.bool (!(valV kvs k).isSome)) s') :
    wpAny (model X.prog X.w) X.A (compareOp .NotIn u (.ref a)) Q E s := by
  obtain ⟨xs, rs, o, es, ep, _, _, c, _, hs, rr, ud⟩ := g.ud I.hok
  refine notIn_u (by rw [Around.in1_units]; omega) hs ud (n.is I.hok ry) hd ?_
  have e := (rr.val k).isSome_eq
  rw [c] at e
  rw [← e]
  exact h _ (I.tok _)
theorem u_getItem {Q : Value → Shared → Prop} (hu : X.A.units + 64 < cLine) (I : Inv X pins σ H s) (g : UAt X.w H a kvs) (n : NV H k y) (hd : k.depth ≤ 8) (hv : valV kvs k = some v) (ry : RelV y u) (h : ∀ w' s', Inv X pins σ H s' → RelV v w' → Q w' s') :
    wpAny (model X.prog X.w) X.A (getItem (.ref a) u) Q E s := by
  obtain ⟨xs, rs, o, es, ep, _, _, c, _, hs, rr, ud⟩ := g.ud I.hok
  have e := rr.val k
  rw [c] at e
  obtain ⟨w', hw, rw'⟩ := RelO.some_of (v := v) (o := valU rs k) (by rw [← hv]; exact e)
  exact item_u (by rw [Around.in1_units]; omega) ud (n.is I.hok ry) hd hw (h w' _ (I.tok _) rw')
theorem putX_len (xs : List Trio) (k : NestedKey) (y v : V) : (putX xs k y v).length ≤ xs.length + 1 := by
  unfold putX
  split
  · rw [List.length_map]
    omega
  · rw [List.length_append]
    exact Nat.le_refl _
/-- the heap behind a store into such a dict -/
def UPut (w : World) (H : Hp) (a : Addr) (kvs : List (NestedKey × V)) (H' : Hp) : Prop := UAt w H' a kvs ∧ (∀ b, b ≠ a → H' b = H b)
theorem UPut.tups {w : World} {H H' : Hp} {a : Addr} {kvs kvs' : List (NestedKey × V)} (g : UAt w H a kvs') (p : UPut w H a kvs H') : ∀ b xs, H b = some (.tup xs) → H' b = some (.tup xs) := fun b xs e => by
  rw [p.2 b (g.ne e (fun φ z => by cases z)).symm]
  exact e
theorem u_setItem {Q : Unit → Shared → Prop} (hu : X.A.units + 64 < cLine) (I : Inv X pins σ H s) (g : UAt X.w H a kvs) (n : NV H k y) (hd : k.depth ≤ 8) (hl : kvs.length < sizeLine) (ry : RelV y u) (rv : RelV v z)
    (h : ∀ H' s', UPut X.w H a (putK kvs k v) H' → Inv X pins σ H' s' → Q () s') :
    wpAny (model X.prog X.w) X.A (setItem (.ref a) u z) Q E s := by
  obtain ⟨xs, rs, o, es, ep, ea, ks, c, hz, hs, rr, ud⟩ := g.ud I.hok
  have lx : xs.length = kvs.length := by rw [← c, List.length_map]
  refine setItem_u (by rw [Around.in1_units]; omega) ud (n.is I.hok ry) hd (by rw [← rr.len]; exact hz) fun h' o' es' ep' ud' sb => ?_
  have nt : ∀ b ys, H b = some (.tup ys) → (upd H a (UO X.w a (putX xs k y v))) b = some (.tup ys) := fun b ys e => by
    rw [upd_ne (ne_of e ea (by intro z; cases z))]
    exact e
  refine h (upd H a (UO X.w a (putX xs k y v))) _ ⟨⟨_, upd_same, fun x hx => ?_, ?_⟩, fun b hb => upd_ne hb⟩ (d_write I (by rw [ea]; exact True.intro) sb ⟨_, ud'.get⟩ (uo_ok ?_ hs (rr.put ud.nd k ry rv) ud'))
  · unfold putX at hx
    split at hx
    · obtain ⟨x', hx', rfl⟩ := List.mem_map.mp hx
      have := ks x' hx'
      split
      · exact ⟨this.1.mono nt, this.2⟩
      · exact ⟨this.1.mono nt, this.2⟩
    · rcases List.mem_append.mp hx with q | q
      · exact ⟨(ks x q).1.mono nt, (ks x q).2⟩
      · rw [List.mem_singleton.mp q]
        exact ⟨n.mono nt, hd⟩
  · rw [putX_kv, c]
  · have := putX_len xs k y v
    omega
theorem u_empty {P : Program} {w : World} {H : Hp} (h : Heap) (hb : sysModules < h.objs.size) : ObjOk P w H (h.push { cls := .type "dict", data := .dict #[] }) h.objs.size (UO w h.objs.size []) :=
  uo_ok (rs := []) (Nat.zero_le _) (beq_eq_false_iff_ne.mpr (Ne.symm (Nat.ne_of_lt hb))) .nil ⟨Heap.get?_push_size _ rfl, ⟨rfl, rfl, rfl⟩, rfl, rfl, (fun _ q => nomatch q), List.nodup_nil⟩
theorem u_new {w : World} {H : Hp} {p : Addr} : UAt w (upd H p (UO w p [])) p [] := ⟨[], upd_same, (fun _ q => nomatch q), rfl⟩
end
/-! ### readings and rules -/
def tUNew (w : World) : TE := fun _ H Q => ∀ p, H p = none → ∀ H', UAt w H' p [] → (∀ b, b ≠ p → H' b = H b) → Q (.ref p) H'
def tUGet (w : World) (td ty : TE) : TE := fun σ H Q => td σ H fun x H1 => ty σ H1 fun y H2 => ∃ a kvs k v, x = .ref a ∧ UAt w H2 a kvs ∧ NV H2 k y ∧ k.depth ≤ 8 ∧ valV kvs k = some v ∧ Q v H2
def tUIn (w : World) (ty td : TE) : TE := fun σ H Q => ty σ H fun y H1 => td σ H1 fun x H2 => ∃ a kvs k, x = .ref a ∧ UAt w H2 a kvs ∧ NV H2 k y ∧ k.depth ≤ 8 ∧ Q (.bl (valV kvs k).isSome) H2
def tUNotIn (w : World) (ty td : TE) : TE := fun σ H Q => ty σ H fun y H1 => td σ H1 fun x H2 => ∃ a kvs k, x = .ref a ∧ UAt w H2 a kvs ∧ NV H2 k y ∧ k.depth ≤ 8 ∧ Q (.bl (!(valV kvs k).isSome)) H2
def sUPut (w : World) (td ty tv : TE) : TS := fun D σ H => tv σ H fun v H1 => td σ H1 fun x H2 => ty σ H2 fun y H3 => ∃ a kvs k, x = .ref a ∧ UAt w H3 a kvs ∧ NV H3 k y ∧ k.depth ≤ 8 ∧ kvs.length < sizeLine ∧ ∀ H4, UPut w H3 a (putK kvs k v) H4 → D.nx σ H4
/-- {k: v} -/
def tUDisp (w : World) (tk tv : TE) : TE := fun σ H Q => ∀ p, H p = none → ∀ H0, UAt w H0 p [] → (∀ b, b ≠ p → H0 b = H b) → tk σ H0 fun x H1 => tv σ H1 fun y H2 => UAt w H2 p [] ∧ ∃ k, NV H2 k x ∧ k.depth ≤ 8 ∧ ∀ H3, UPut w H2 p [(k, y)] H3 → Q (.ref p) H3
section
variable {X : Cx} {o i e value : Expr} {pos pos' tpos : Pos} {td ty tv tk : TE} {w : World}
theorem pe_unew (hw : X.w = w) : PE X (.Dict [] [] pos) (tUNew w) := by
  subst hw
  exact ⟨fun pins s σ H Q I h => wpAny_Dict_empty ⟨.ref s.heap.objs.size, _, I.laid (a := s.heap.objs.size) (o := UO X.w s.heap.objs.size []) (t' := s.toks) (fun _ _ q => Heap.get?_push_of_some _ q) (Nat.le_refl _) (u_empty s.heap I.big), rfl, h _ (I.hok.fresh (Nat.le_refl _)) _ u_new fun b hb => upd_ne hb⟩⟩
theorem pe_uget (hw : X.w = w) (hu : X.A.units + 64 < cLine) (ho : PE X o td) (hi : PE X i ty) (hs : NoSl i) : PE X (.Subscript o i pos) (tUGet w td ty) := by
  subst hw
  refine ⟨fun pins s σ H Q I h => ?_⟩
  refine subD_of PySem.F.slot_dict_getitem.lookup hs (thn (ho.run pins s σ H _ I h) fun u s1 ⟨x, H1, I1, rx, q1⟩ => thn (hi.run pins s1 σ H1 _ I1 q1) fun iv s2 ⟨y, H2, I2, ry, a, kvs, k, v, ex, g, n, hd, hv, q2⟩ => ?_)
  subst ex
  obtain rfl : u = Value.ref a := rx
  obtain ⟨_, _, _, _, _, _, _, _, _, _, _, ud⟩ := g.ud I2.hok
  exact ⟨ud.type, u_getItem hu I2 g n hd hv ry fun w' s3 I3 rw' => ⟨v, H2, I3, rw', q2⟩⟩
theorem pc_uin (hw : X.w = w) (hu : X.A.units + 64 < cLine) (hi : PE X i ty) (ho : PE X o td) : PC X .In i o (tUIn w ty td) := by
  subst hw
  refine ⟨fun pins s σ H Q I h => ?_⟩
  refine thn (hi.run pins s σ H _ I h) fun iv s1 ⟨y, H1, I1, ry, q1⟩ => thn (ho.run pins s1 σ H1 _ I1 q1) fun u s2 ⟨x, H2, I2, rx, a, kvs, k, ex, g, n, hd, q2⟩ => ?_
  subst ex
  obtain rfl : u = Value.ref a := rx
  exact u_in hu I2 g n hd ry fun s3 I3 => ⟨.bl (valV kvs k).isSome, H2, I3, rfl, q2⟩
theorem pc_unotin (hw : X.w = w) (hu : X.A.units + 64 < cLine) (hi : PE X i ty) (ho : PE X o td) : PC X .NotIn i o (tUNotIn w ty td) := by
  subst hw
  refine ⟨fun pins s σ H Q I h => ?_⟩
  refine thn (hi.run pins s σ H _ I h) fun iv s1 ⟨y, H1, I1, ry, q1⟩ => thn (ho.run pins s1 σ H1 _ I1 q1) fun u s2 ⟨x, H2, I2, rx, a, kvs, k, ex, g, n, hd, q2⟩ => ?_
  subst ex
  obtain rfl : u = Value.ref a := rx
  exact u_notIn hu I2 g n hd ry fun s3 I3 => ⟨.bl (!(valV kvs k).isSome), H2, I3, rfl, q2⟩
theorem ps_uput (hw : X.w = w) (hu : X.A.units + 64 < cLine) (ho : PE X o td) (hi : PE X i ty) (hv : PE X value tv) (hs : swapsWith value (some (.Subscript o i pos')) pos.line X.env = pure false) :
    PS X (.Assign [.Subscript o i pos'] value pos) (sUPut w td ty tv) := by
  subst hw
  refine ⟨fun pins s σ H D I h => ?_⟩
  refine wpAny_Assign_Subscript (thn (hv.run pins s σ H _ I h) fun r s1 ⟨v, H1, I1, rv, q1⟩ => thn (ho.run pins s1 σ H1 _ I1 q1) fun u s2 ⟨x, H2, I2, rx, q2⟩ => thn (hi.run pins s2 σ H2 _ I2 q2) fun iv s3 ⟨y, H3, I3, ry, a, kvs, k, ex, g, n, hd, hl, q3⟩ => ?_) hs
  subst ex
  obtain rfl : u = Value.ref a := rx
  exact u_setItem hu I3 g n hd hl ry rv fun H4 s4 p I4 => ⟨σ, H4, I4, q3 H4 p⟩
theorem pe_udisp (hw : X.w = w) (hu : X.A.units + 64 < cLine) (hk : PE X o tk) (hv : PE X value tv) : PE X (.Dict [some o] [value] pos) (tUDisp w tk tv) := by
  subst hw
  refine ⟨fun pins s σ H Q I q => ?_⟩
  have hn := I.hok.fresh (Nat.le_refl s.heap.objs.size)
  have I1 := I.laid (a := s.heap.objs.size) (o := UO X.w s.heap.objs.size []) (h' := s.heap.push { cls := .type "dict", data := .dict #[] }) (t' := s.toks) (fun _ _ q => Heap.get?_push_of_some _ q) (Nat.le_refl _) (u_empty s.heap I.big)
  rw [arm_eval_Dict, zip_pairTrees [some o] [value] X.env pos rfl rfl, dictDisplay_pairs _ (by intro z; cases z) (by show 1 < 17; decide)]
  refine wpAny_bind (wpAny_standAt (wpAny_bind ?_))
  unfold subDict
  refine wpAny_bind (wpAny_alloc ?_)
  refine wpAny_bind (wpAny_holding ?_)
  rw [if_pos (show (pairTrees [some o] [value] X.env pos).length ≤ 15 from (by decide : 1 ≤ 15))]
  refine wpAny_bind (pairTrees_cons_walk (thn (hk.run pins _ σ _ _ I1 (q _ hn _ u_new fun b hb => upd_ne hb)) fun u s1 ⟨x, H1, I2, rx, q1⟩ => thn (hv.run pins s1 σ H1 _ I2 q1) fun r s2 ⟨y, H2, I3, ry, g, k, n, hd, q2⟩ => pairTrees_nil_walk ?_))
  obtain ⟨xs, rs, ob, es, ep, ea, ks, c, hz, hs, rr, ud⟩ := g.ud I3.hok
  have ex : xs = [] := List.map_eq_nil_iff.mp c
  subst ex
  cases rr
  refine wpAny_holding ?_
  rw [List.forIn_cons]
  refine wpAny_bind (wpAny_bind (wpAny_bind (set_u (by omega) ud (n.is I3.hok rx) hd (Nat.zero_le _) fun h' o' es' ep' ud' sb => wpAny_pure ?_)))
  dsimp only
  rw [List.forIn_nil]
  have nt : ∀ b ys, H2 b = some (.tup ys) → (upd H2 s.heap.objs.size (UO X.w s.heap.objs.size (putX [] k x y))) b = some (.tup ys) := fun b ys e => by
    rw [upd_ne (ne_of e ea (by intro z; cases z))]
    exact e
  refine wpAny_pure (wpAny_pure (wpAny_pure (wpAny_pure ⟨.ref s.heap.objs.size, upd H2 s.heap.objs.size (UO X.w s.heap.objs.size (putX [] k x y)), ?_, rfl, q2 _ ⟨⟨_, upd_same, fun t ht => ?_, rfl⟩, fun b hb => upd_ne hb⟩⟩)))
  · exact d_write I3 (by rw [ea]; exact True.intro) sb ⟨_, ud'.get⟩ (uo_ok (by show 1 ≤ sizeLine; decide) hs (RR.put (xs := []) (rs := []) .nil List.nodup_nil k rx ry) ud')
  · rw [List.mem_singleton.mp ht]
    exact ⟨n.mono nt, hd⟩
end
/-- len(d) -/
theorem call_lenU {X : Cx} (w : World) (hw : X.w = w) : CallR X (.builtin "len") (fun xs H Q => ∃ a kvs, xs = [V.ref a] ∧ UAt w H a kvs ∧ Q (.int kvs.length) H) := by
  subst hw
  intro pins s σ H xs us Q I r h
  obtain ⟨a, kvs, rfl, g, q⟩ := h
  obtain ⟨u, rfl, ru⟩ := vals1 r
  cases ru
  obtain ⟨ys, rs, ob, es, ep, ea, ks, c, hz, hs, rr, ud⟩ := g.ud I.hok
  have sz : (es.size : Int) = (kvs.length : Int) := by
    rw [ud.size, ← rr.len, ← c, List.length_map]
  have fit : (kvs.length : Int) < 2 ^ 63 := by
    rw [← sz, ud.size, ← rr.len]
    rw [sizeLine_eq] at hz
    omega
  refine Calls.call_function_entry kind_len plain_len entry_len (args_len1 _) ?_
  unfold Builtin.«len»
  refine wpAny_bind (m := oneArg "len" _) (wpAny_pure ?_)
  refine wpAny_bind (m := callSpecial? (.ref a) (Str.ofString "__len__")) (wpAny_callSpecial?_slot (name := Str.ofString "__len__") ud.type PySem.F.slot_dict_len (wpAny_call_entry PySem.F.slot_dict_len ud.type PySem.F.entry_dict_len ?_ (PySem.F.args_dict_len_1 _)))
  show wpAny _ _ (dictSize a >>= _) _ _ s
  unfold dictSize
  refine wpAny_bind (wpAny_bind (wpAny_dictEntries ud.get ud.data (wpAny_pure ?_)))
  show wpAny _ _ (Builtin.Dict.pendingCount a >>= _) _ _ s
  refine wpAny_bind (wpAny_pendingCount_other hs ?_)
  refine wpAny_ret_mkInt ?_
  have e0 : (es.size : Int) + ((0 : Nat) : Int) = (kvs.length : Int) := (Int.add_zero _).trans sz
  rw [e0]
  show wpAny _ _ _ _ _ { s with toks := s.toks + 1 }
  refine wpAny_bind (wpAny_holding (wpAny_pure ?_))
  refine wpAny_bind (wpAny_letGo ?_)
  show wpAny _ _ (if ((kvs.length : Nat) : Int) < 0 then _ else _) _ _ _
  rw [if_neg (by omega)]
  show wpAny _ _ (if ((kvs.length : Nat) : Int) ≥ 2 ^ 63 then _ else _) _ _ _
  rw [if_neg (by omega)]
  exact wpAny_bind (wpAny_mkInt (wpAny_pure ⟨_, rfl, .int kvs.length, H, I.tok _, ⟨_, rfl⟩, q⟩))
end LU

namespace LH
open PySem PySem.Spec PyProof.Rows L2 NdefX
/-! ### the entry of a nested def that has cells of its own beside the captured ones -/
theorem cellsFrom_app : ∀ (names : List (Str × NameKind)) (n : Nat) (acc : List (Str × Addr)), cellsFrom n names acc = cellsFrom n names [] ++ acc
  | [], _, _ => rfl
  | (name, kind) :: r, n, acc => by
    unfold cellsFrom
    split
    · rw [cellsFrom_app r (n + 1) ((name, n) :: acc), cellsFrom_app r (n + 1) [(name, n)], List.append_assoc]
      rfl
    · exact cellsFrom_app r n acc
theorem mem_cellsFrom : ∀ {names : List (Str × NameKind)} {n : Nat} {acc : List (Str × Addr)} {x : Str} {c : Addr}, (x, c) ∈ cellsFrom n names acc → (x, c) ∈ acc ∨ (x, NameKind.cell) ∈ names
  | [], _, _, _, _, h => .inl h
  | (name, kind) :: r, n, acc, x, c, h => by
    unfold cellsFrom at h
    split at h
    · rename_i hk
      rcases mem_cellsFrom h with q | q
      · rcases List.mem_cons.mp q with e | q
        · cases e
          have : kind = .cell := beq_iff_eq.mp hk
          subst this
          exact .inr List.mem_cons_self
        · exact .inl q
      · exact .inr (List.mem_cons_of_mem _ q)
    · rcases mem_cellsFrom h with q | q
      · exact .inl q
      · exact .inr (List.mem_cons_of_mem _ q)
section
variable {M : Model} {A : Around} {E : Value → Shared → Prop} {s₀ s : Shared} {m cm : Str → Option Value} {env : Env} {own : List (Str × Addr)}
theorem stL_own {n : Str} {v : Value} {Q : Unit → Shared → Prop} (x : InCallC s₀ env.locals m own cm s) (hk : env.scope.kind = .function) (hl : env.kindOf n = some .local)
    (h : ∀ s', InCallC s₀ env.locals (fun y => if y = n then some v else m y) own cm s' → Q () s') : wpAny M A (storeName env n v) Q E s := by
  refine wpAny_storeName_local hl x.toInCall.ns (fun h' hn' hs' => h _ ⟨⟨?_, hn', fun b o e => ?_, x.toInCall.fresh⟩, fun k c hc => ?_, x.apart, x.above⟩) (by rw [hk]; rfl)
  · obtain ⟨h₁, tk, rfl⟩ := x.toInCall.same
    exact ⟨h', _, rfl⟩
  · exact hs'.extBut b o (Nat.ne_of_lt (Nat.lt_of_lt_of_le (Heap.lt_size e) x.toInCall.fresh)) (x.toInCall.keep b o e)
  · exact (x.cell k c hc).sameBut hs' (Nat.ne_of_gt (x.above k c (PySem.mem_of_lookup hc)))
theorem stC_own {n : Str} {c : Addr} {v : Value} {Q : Unit → Shared → Prop} (x : InCallC s₀ env.locals m own cm s) (hk : env.scope.kind = .function) (hl : env.kindOf n = some .cell)
    (ho : own.lookup n = some c) (hc : env.cells.lookup n = some c)
    (h : ∀ s', InCallC s₀ env.locals m own (fun y => if y = n then some v else cm y) s' → Q () s') : wpAny M A (storeName env n v) Q E s := by
  have hLc := x.above n c (PySem.mem_of_lookup ho)
  refine wpAny_storeName_cell hk hl hc (x.cell n c ho) fun h' hc' hs' => h _ ⟨⟨?_, x.toInCall.ns.sameBut hs' (Nat.ne_of_lt hLc), fun b o e => ?_, x.toInCall.fresh⟩, fun k c' hk' => ?_, x.apart, x.above⟩
  · obtain ⟨h₁, tk, rfl⟩ := x.toInCall.same
    exact ⟨h', _, rfl⟩
  · exact hs'.extBut b o (Nat.ne_of_lt (Nat.lt_trans (Nat.lt_of_lt_of_le (Heap.lt_size e) x.toInCall.fresh) hLc)) (x.toInCall.keep b o e)
  · by_cases hkn : k = n
    · subst hkn
      rw [ho] at hk'; cases hk'
      simpa using hc'
    · rw [if_neg hkn]
      exact (x.cell k c' hk').sameBut hs' fun e => hkn (name_of_addr x.apart (PySem.mem_of_lookup hk') (e ▸ PySem.mem_of_lookup ho))
theorem wpAny_bind_own (f : Str × Value → PUnit → Sem (ForInStep PUnit)) (hf : ∀ n v u, f (n, v) u = (do storeName env n v; pure (.yield ⟨⟩))) (hk : env.scope.kind = .function) (hsub : ∀ n c, own.lookup n = some c → env.cells.lookup n = some c) :
    ∀ (binds : List (Str × Value)) (m cm : Str → Option Value) (s : Shared) (Q : PUnit → Shared → Prop), InCallC s₀ env.locals m own cm s →
      (∀ x ∈ binds, env.kindOf x.1 = some .local ∨ (env.kindOf x.1 = some .cell ∧ (own.lookup x.1).isSome = true)) →
      (∀ s', InCallC s₀ env.locals (bindL env.kindOf binds m) own (bindC env.kindOf binds cm) s' → Q ⟨⟩ s') → wpAny M A (forIn binds ⟨⟩ f) Q E s
  | [], m, cm, s, Q, x, _, h => by rw [List.forIn_nil]; exact wpAny_pure (h s x)
  | (n, v) :: r, m, cm, s, Q, x, hkind, h => by
    rw [List.forIn_cons, hf]
    have hr : ∀ y ∈ r, env.kindOf y.1 = some .local ∨ (env.kindOf y.1 = some .cell ∧ (own.lookup y.1).isSome = true) := fun y hy => hkind y (List.mem_cons_of_mem _ hy)
    rcases hkind (n, v) List.mem_cons_self with hl | ⟨hl, hc⟩
    · refine wpAny_bind (wpAny_bind (stL_own x hk hl fun s' x' => wpAny_pure (wpAny_bind_own f hf hk hsub r _ _ s' Q x' hr fun s'' x'' => h s'' ?_)))
      unfold bindL bindC; rw [if_pos hl, if_pos hl]; exact x''
    · obtain ⟨c, hc⟩ := Option.isSome_iff_exists.mp hc
      have hnl : ¬ env.kindOf n = some .local := by rw [hl]; decide
      refine wpAny_bind (wpAny_bind (stC_own x hk hl hc (hsub n c hc) fun s' x' => wpAny_pure (wpAny_bind_own f hf hk hsub r _ _ s' Q x' hr fun s'' x'' => h s'' ?_)))
      unfold bindL bindC; rw [if_neg hnl, if_neg hnl]; exact x''
end
section
variable {M : Model} {A : Around} {E : Value → Shared → Prop} {s : Shared}
theorem wpAny_newFunctionEnv_own {scope : Scope} {globals : Addr} {cl : List (Str × Addr)} {binds : List (Str × Value)} {qual : Str} {func : Option Addr} {code : Value} {builtins : Addr} {Q : Env → Shared → Prop}
    (hk : scope.kind = .function)
    (hkind : ∀ x ∈ binds, scope.names.lookup x.1 = some .local ∨ (scope.names.lookup x.1 = some .cell ∧ ((cellsFrom (s.heap.objs.size + 1) scope.names []).lookup x.1).isSome = true))
    (hQ : ∀ env, env = newEnv scope s.heap.objs.size globals (cellsFrom (s.heap.objs.size + 1) scope.names [] ++ cl) qual func code none builtins →
      ∀ s', InCallC s env.locals (bindL env.kindOf binds fun _ => none) (cellsFrom (s.heap.objs.size + 1) scope.names []) (bindC env.kindOf binds fun _ => none) s' → Q env s') :
    wpAny M A (newFunctionEnv scope globals cl binds qual func code none builtins) Q E s := by
  simp only [newFunctionEnv, Option.isSome_none, Bool.false_eq_true, if_false]
  refine wpAny_bind (wpAny_alloc ?_)
  refine wpAny_bind (wpAny_layCells _ (fun name kind cells => by cases hkc : kind == NameKind.cell <;> simp [hkc]) _ _ _ _ ?_)
  have ok := cellsFrom_ok scope.names (s.heap.push { cls := .type "frame", data := .dict #[] }) (s.heap.objs.size + 1) [] ⟨fun _ _ hm => (nomatch hm), List.Pairwise.nil⟩ (by rw [Heap.size_push]; exact Nat.le_refl _)
  rw [Heap.size_push] at ok
  rw [show ({ s with heap := s.heap.push { cls := .type "frame", data := .dict #[] } } : Shared).heap.objs.size = s.heap.objs.size + 1 from Heap.size_push .., cellsFrom_app scope.names _ cl]
  refine wpAny_bind (wpAny_bind_own (s₀ := s) (own := cellsFrom (s.heap.objs.size + 1) scope.names []) (env := newEnv scope s.heap.objs.size globals (cellsFrom (s.heap.objs.size + 1) scope.names [] ++ cl) qual func code none builtins)
    _ (fun _ _ _ => rfl) hk (fun n c h => by show (cellsFrom (s.heap.objs.size + 1) scope.names [] ++ cl).lookup n = some c; rw [List.lookup_append, h]; rfl) binds (fun _ => none) (fun _ => none) _ _
    ⟨⟨⟨_, _, rfl⟩, (Heap.Ns.new s.heap (.type "frame")).keeps (pushCells_keeps _ _), fun b o e => pushCells_keeps _ _ b o (Heap.get?_push_of_some _ e), Nat.le_refl _⟩,
      fun n c hc => (ok.empty n c (PySem.mem_of_lookup hc)).1, ok.apart, fun n c hm => (ok.empty n c hm).2⟩
    hkind fun s' x => wpAny_pure (hQ _ rfl s' x))
end
end LH

namespace LH
open PySem PySem.Spec PyProof.Rows L2 NdefX LamX
/-- a nested def's names: parameters (local or a cell of its own), captured ones, locals -/
structure NScC (N ps fr : List Str) (sc : Scope) : Prop where
  kind : sc.kind = .function
  co : sc.isCoroutine = false
  gen : sc.isGenerator = false
  nd : N.Nodup
  pre : N.take (ps.length + fr.length) = ps ++ fr
  par : ∀ x ∈ ps, sc.names.lookup x = some .local ∨ sc.names.lookup x = some .cell
  free : ∀ y ∈ sc.names, y.2 = .free → y.1 ∈ fr
  frk : ∀ x ∈ fr, sc.names.lookup x = some .free
  frn : ∀ x ∈ fr, (x, NameKind.cell) ∉ sc.names
def nscC (N ps fr : List Str) (sc : Scope) : Bool :=
  decide (sc.kind = .function) && !sc.isCoroutine && !sc.isGenerator && decide N.Nodup && decide (N.take (ps.length + fr.length) = ps ++ fr) && ps.all (fun x => decide (sc.names.lookup x = some .local) || decide (sc.names.lookup x = some .cell)) && sc.names.all (fun y => !decide (y.2 = .free) || decide (y.1 ∈ fr)) && fr.all (fun x => decide (sc.names.lookup x = some .free)) && fr.all (fun x => sc.names.all fun y => !(decide (y.1 = x) && decide (y.2 = .cell)))
theorem nscC_by {N ps fr : List Str} {sc : Scope} (h : nscC N ps fr sc = true) : NScC N ps fr sc := by
  unfold nscC at h
  simp only [Bool.and_eq_true, Bool.not_eq_true', decide_eq_true_eq, List.all_eq_true, Bool.or_eq_true, decide_eq_false_iff_not, Bool.and_eq_false_iff] at h
  obtain ⟨⟨⟨⟨⟨⟨⟨⟨h1, h2⟩, h3⟩, h4⟩, h5⟩, h6⟩, h7⟩, h8⟩, h9⟩ := h
  exact ⟨h1, h2, h3, h4, h5, h6, fun y hy e => (h7 y hy).elim (fun z => absurd e z) id, h8, fun x hx hm => (h9 x hx _ hm).elim (fun z => z rfl) fun z => z rfl⟩
abbrev ownC (F : NF) (L : Addr) : List (Str × Addr) := cellsFrom (L + 1) F.scope.names []
abbrev envFC (F : NF) (f L : Addr) : Env := PySem.W.envX F.qual F.scope L f (.ref F.c) (ownC F L ++ F.cl)
/-- the context of its body, at its entry -/
def ncxC (CX : CXT) (P : Program) (w : World) (K : PySem.W.Frag) (mg : Str → Option Value) (base : Heap) (N : List Str) (F : NF) (f : Addr) (A : Around) (outer : List Env) (s : Shared) (H : Hp) (E : XK) : Cx where
  prog := P
  w := w
  K := K
  mg := mg
  base := base
  A := A.deeper (envFC F f s.heap.objs.size)
  N := N
  s_0 := s
  H_0 := H
  env := envFC F f s.heap.objs.size
  outer := outer
  stack := envFC F f s.heap.objs.size :: outer
  ex := []
  calm := true
  fn := fun _ => false
  pn := []
  xe := fun e s' => wpAny (model P w) (A.deeper (envFC F f s.heap.objs.size)) (leaving (envFC F f s.heap.objs.size) e) (fun _ s'' => CX outer H s E e s'') (fun e' s'' => CX outer H s E e' s'') s'
section
variable {CX : CXT} {P : Program} {w : World} {K : PySem.W.Frag} {mg : Str → Option Value} {base : Heap} {N ps fr : List Str} {F : NF} {f : Addr} {A : Around} {outer : List Env} {s s1 : Shared} {H : Hp} {E : XK} {us : List Value} {vs : List V} {ws : List (Option V)}
theorem inv_startC (S : NScC N ps fr F.scope) (hd : A.handled = none) (e0 : Env0 P w K mg base A outer s H) (hl : vs.length = ps.length) (r : Vals vs us) (C : CellsAt F.cl fr ws s.heap H)
    (x : InCallC s s.heap.objs.size (bindL (envFC F f s.heap.objs.size).kindOf (ps.zip us) fun _ => none) (ownC F s.heap.objs.size) (bindC (envFC F f s.heap.objs.size).kindOf (ps.zip us) fun _ => none) s1) :
    Inv (ncxC CX P w K mg base N F f A outer s H E) [] (startF N vs ws) H s1 := by
  have hpl : ps.length + fr.length ≤ N.length := by
    have q := congrArg List.length S.pre
    rw [List.length_take, List.length_append] at q
    omega
  obtain ⟨h1, tk, rfl, kp⟩ := x.done
  have noA : ∀ b : Addr, b ∉ (ncxC CX P w K mg base N F f A outer s H E).ex := fun b z => absurd (show b ∈ ([] : List Addr) from z) (by simp)
  have cellK : ∀ {c : Addr} {v : Option Value}, s.heap.IsCell c v → h1.IsCell c v := fun {c v} ⟨o, ho, hd⟩ => ⟨o, kp _ _ ho, hd⟩
  have lo : ∀ {y : Str} {c : Addr}, (ownC F s.heap.objs.size).lookup y = some c → (ownC F s.heap.objs.size ++ F.cl).lookup y = some c := fun {y c} e => by rw [List.lookup_append, e]; rfl
  have lc : ∀ {y : Str} {c : Addr}, (ownC F s.heap.objs.size ++ F.cl).lookup y = some c → (ownC F s.heap.objs.size).lookup y = some c ∨ ((ownC F s.heap.objs.size).lookup y = none ∧ F.cl.lookup y = some c) := fun {y c} e => by
    rw [List.lookup_append] at e
    cases q : (ownC F s.heap.objs.size).lookup y with
    | none =>
      rw [q] at e
      exact .inr ⟨rfl, e⟩
    | some d =>
      rw [q] at e
      exact .inl e
  have lf : ∀ {y : Str} {c : Addr}, y ∈ fr → F.cl.lookup y = some c → (ownC F s.heap.objs.size ++ F.cl).lookup y = some c := fun {y c} hy e => by
    rw [List.lookup_append]
    cases q : (ownC F s.heap.objs.size).lookup y with
    | none => exact e
    | some d =>
      rcases mem_cellsFrom (PySem.mem_of_lookup q) with z | z
      · cases z
      · exact absurd z (S.frn y hy)
  have up : ∀ {y : Str} {c : Addr}, (ownC F s.heap.objs.size).lookup y = some c → s.heap.objs.size ≤ c := fun {y c} e => Nat.le_of_lt (x.above y c (PySem.mem_of_lookup e))
  have dn : ∀ {y : Str} {c : Addr}, F.cl.lookup y = some c → c < s.heap.objs.size := fun {y c} e => by
    obtain ⟨v, z⟩ := (C.all y c e).2
    exact z.lt
  refine ⟨⟨e0.mod, S.kind, rfl, rfl, Nat.le_refl _, fun y z c e1 e2 => ?_, fun y hy => ?_, fun y c z _ => ?_, fun _ => hd, Around.frames_deeper e0.frames, .inr ⟨rfl, rfl⟩, fun b z => absurd z (noA b), e0.bs, e0.bsz, fun b _ _ => noA b,
      fun b z => absurd z (noA b), e0.funs, e0.frf⟩,
    rfl, e0.bare, Un.kept kp, ⟨_, x.toInCall.ns, fun i y v e1 e2 e3 => ?_⟩, fun y c e => ?_, e0.hok.fresh (Nat.le_refl _), fun y c e => ?_, fun q hq => absurd (show q ∈ ([] : List (Addr × Obj)) ++ [] from hq) (by simp), e0.hok.kept kp, ?_⟩
  · rcases lc e1 with a | ⟨_, a⟩ <;> rcases lc e2 with b | ⟨_, b⟩
    · exact name_of_addr x.apart (PySem.mem_of_lookup a) (PySem.mem_of_lookup b)
    · exact absurd (up a) (Nat.not_le_of_lt (dn b))
    · exact absurd (up b) (Nat.not_le_of_lt (dn a))
    · exact C.inj y z c a b
  · have hy : F.scope.names.lookup y = some .cell ∨ F.scope.names.lookup y = some .free := hy
    rcases hy with hy | hy
    · obtain ⟨c, e⟩ := cell_has (n := s.heap.objs.size + 1) hy
      exact ⟨c, lo e⟩
    · have hf := S.free _ (PySem.mem_of_lookup hy) rfl
      obtain ⟨i, hi⟩ := List.mem_iff_getElem?.mp hf
      obtain ⟨c, hc, _⟩ := C.has i y hi
      exact ⟨c, lf hf hc⟩
  · have z : false = true := z
    cases z
  · have e1 : N[i]? = some y := e1
    have clen := C.len
    unfold startF at e2
    by_cases h1 : i < ps.length
    · have hq : (ps ++ fr)[i]? = some y := by
        rw [← S.pre, List.getElem?_take_of_lt (by omega)]
        exact e1
      rw [List.getElem?_append_left h1] at hq
      rw [List.getElem?_append_left (by rw [List.length_map]; omega), List.getElem?_map] at e2
      have ha : vs[i]? = some v := by
        cases e : vs[i]? with
        | none => rw [e] at e2; cases e2
        | some a => rw [e] at e2; cases e2; rfl
      obtain ⟨u, hu, rv⟩ := r.get ha
      have ndP : ps.Nodup := by
        have q := S.nd.sublist (List.take_sublist (ps.length + fr.length) N)
        rw [S.pre] at q
        exact (List.nodup_append.mp q).1
      refine ⟨u, rv, ?_⟩
      rcases S.par y (List.mem_of_getElem? hq) with k | k
      · exact .inl ⟨k, bindL_get ndP hq hu k⟩
      · obtain ⟨c, e⟩ := cell_has (n := s.heap.objs.size + 1) k
        refine .inr ⟨.inl k, c, lo e, ?_⟩
        have q := x.cell y c e
        rw [bindC_get ndP hq hu (by show F.scope.names.lookup y ≠ _; rw [k]; decide)] at q
        exact q
    · rw [List.getElem?_append_right (by rw [List.length_map]; omega), List.length_map] at e2
      by_cases h2 : i < ps.length + fr.length
      · have hq : (ps ++ fr)[i]? = some y := by
          rw [← S.pre, List.getElem?_take_of_lt (by omega)]
          exact e1
        rw [List.getElem?_append_right (by omega)] at hq
        rw [List.getElem?_append_left (by omega), hl] at e2
        obtain ⟨c, hc, hv⟩ := C.has (i - ps.length) y hq
        obtain ⟨u, ru, hu⟩ := hv v e2
        have hm := List.mem_of_getElem? hq
        exact ⟨u, ru, .inr ⟨.inr (S.frk y hm), c, lf hm hc, cellK hu⟩⟩
      · rw [List.getElem?_append_right (by omega), List.getElem?_replicate] at e2
        split at e2 <;> cases e2
  · rcases lc e with a | ⟨_, a⟩
    · exact ⟨_, x.cell y c a⟩
    · obtain ⟨v, z⟩ := (C.all y c a).2
      exact ⟨v, cellK z⟩
  · rcases lc e with a | ⟨_, a⟩
    · exact e0.hok.fresh (up a)
    · exact (C.all y c a).1
  · have clen := C.len
    unfold startF
    show _ = N.length
    rw [List.length_append, List.length_append, List.length_map, List.length_replicate]
    omega
end
section
variable {CX : CXT} {P : Program} {w : World} {K : PySem.W.Frag} {mg : Str → Option Value} {base : Heap} {N ps fr : List Str} {F : NF} {f : Addr} {k : Nat} {sp : List (Option V) → Sp}
/-- a nested def by its body, with cells of its own -/
theorem nok_ofC (S : NScC N ps fr F.scope) (hb : ∀ (doc pm ctv : Value) (us : List Value), us.length = ps.length → bindArgs (F.fd doc pm ctv) ⟨us, []⟩ = pure (ps.zip us)) (len : ∀ ws vs H Q E, sp ws vs H Q E → vs.length = ps.length)
    (hbody : ∀ (A : Around) (outer : List Env) (s : Shared) (H : Hp) (vs : List V) (ws : List (Option V)) (Q : VK) (E : XK), Room k (A.deeper (envFC F f s.heap.objs.size)) → H f = some (FnO f F) → H F.c = some (CodeO F.c F.qual) → ws.length = fr.length → sp ws vs H Q E →
      ∃ t, PSs (ncxC CX P w K mg base N F f A outer s H E) F.body t ∧ t { nx := fun _ H' => Q .non H', rt := Q } (startF N vs ws) H) :
    NOk P w K mg base CX (k + 1) f F ps fr sp := by
  refine ⟨len, fun A outer s H us vs ws Q E hr e0 hf hc C r hsp => ?_⟩
  have hl := len _ _ _ _ _ hsp
  have lim : s.heap.NoLimit := e0.mod.nolimit.keeps fun b o e => (e0.bs b o e).1
  obtain ⟨od, sl, doc, pm, ctv, ho⟩ := fnO_at e0.hok hf
  have hkind : ∀ y ∈ ps.zip us, F.scope.names.lookup y.1 = some .local ∨ (F.scope.names.lookup y.1 = some .cell ∧ ((cellsFrom (s.heap.objs.size + 1) F.scope.names []).lookup y.1).isSome = true) := fun ⟨n, v⟩ hy => by
    rcases S.par n (List.of_mem_zip hy).1 with q | q
    · exact .inl q
    · exact .inr ⟨q, PySem.W.cellsFrom_some _ _ _ (.inl q)⟩
  refine codeAny_call_function hr.depth ho rfl S.co S.gen rfl (codeO_at e0.hok hc) ?_
  rw [hb doc pm ctv us (by rw [← r.length]; exact hl)]
  refine wpAny_pure (wpAny_newFunctionEnv_own S.kind hkind fun env he s1 x => ?_)
  subst he
  refine ⟨lim.keeps x.toInCall.keep, codeAny_func ?_⟩
  obtain ⟨t, ht, hq⟩ := hbody A outer s H vs ws Q E (hr.deeper _) hf hc C.len hsp
  have I : Inv (ncxC CX P w K mg base N F f A outer s H E) [] (startF N vs ws) H s1 := inv_startC S hr.hd e0 hl r C x
  refine wpAny_mono (ht.run [] s1 (startF N vs ws) H _ I hq) (fun fl s' hs => ?_) fun e s' hs => hs
  have fin : ∀ {σ' : L2.St} {H' : Hp} {v : V} {u : Value}, Inv (ncxC CX P w K mg base N F f A outer s H E) [] σ' H' s' → L2.RelV v u → Q v H' → CE outer P w H s Q u s' :=
    fun {σ' H' v u} J rv q => ⟨v, H', J.os, J.bare, J.base, J.hok, rv, q⟩
  cases fl with
  | ret u =>
    obtain ⟨v, σ', H', J, rv, q⟩ := hs
    exact fin J rv q
  | next =>
    obtain ⟨σ', H', J, q⟩ := hs
    exact fin (v := V.non) (u := Value.none) J rfl q
  | brk =>
    obtain ⟨_, _, _, q⟩ := hs
    exact False.elim q
  | cont =>
    obtain ⟨_, _, _, q⟩ := hs
    exact False.elim q
end
end LH

namespace LH
open PySem PySem.Spec PyProof.Rows L2
/-! ### for sign, thing in zip(text, tuple) -/
def ItZ (K : PySem.W.Frag) (z : Str) (a : Addr) : It :=
  ⟨fun i H => ∃ (xs : List V) (x : V) (c : Nat), SqT K H a xs ∧ xs[i]? = some x ∧ z.cps[i]? = some c,
    fun i H v H' => ∃ T x c, v = .ref T ∧ H T = none ∧ H' = upd H T (.tup [.str ⟨#[c]⟩, x]) ∧ z.cps[i]? = some c ∧ ∀ xs, SqT K H a xs → xs[i]? = some x,
    fun i H => ∃ xs : List V, SqT K H a xs ∧ i = min z.cps.size xs.length⟩
theorem walk_Z {K : PySem.W.Frag} {z : Str} {a : Addr} {xs : List V} {n : Nat} (h1 : z.cps.size = n) (h2 : xs.length = n) : Walk (ItZ K z a) n (fun H => SqT K H a xs) (YPair (fun i => (z.cps[i]?).map fun c => .str ⟨#[c]⟩) (fun i => xs[i]?)) :=
  ⟨fun i _ hi q => ⟨xs, xs[i], z.cps[i], q, List.getElem?_eq_getElem (by omega), Array.getElem?_eq_getElem (by omega)⟩, fun _ q => ⟨xs, q, by omega⟩, fun i _ _ _ _ q ⟨T, x, c, a1, a2, a3, a4, a5⟩ => ⟨T, .str ⟨#[c]⟩, x, a1, a2, a3, by show Option.map _ (z.cps[i]?) = _; rw [a4]; rfl, a5 xs q⟩⟩
theorem turn_Z {P : Program} {w : World} {K : PySem.W.Frag} {elts : List Expr} {kk : Nat} {tpos : Pos} (z : Str) (t0 : Tok) (a zz TI TO i1 i2 : Addr) (S : ZipSep2 zz TI TO i1 i2 [i1] [i2, a]) (hai : a ≠ i2) :
    Turn P w K (.Tuple elts kk tpos) (ItZ K z a) [zz, TI, TO, i1, i2] zz (fun i h => IsZip h zz TI TO .none ∧ IsTupOf2 h TI (.ref i1) (.ref i2) ∧ (∃ a1 a2, IsTupOf2 h TO a1 a2) ∧ h.IsStrIter i1 (strIterType z) z t0 i ∧ h.IsTupleIter i2 a i) where
  mem := List.mem_cons_self
  obj := fun i h st b hb => by
    obtain ⟨h1, h2, ⟨x1, x2, h3⟩, ⟨o4, h4, _, d4⟩, ⟨o5, h5, _, d5⟩⟩ := st
    have e : b = zz ∨ b = TI ∨ b = TO ∨ b = i1 ∨ b = i2 := by simpa using hb
    rcases e with y | y | y | y | y
    · rw [y]
      exact ⟨_, h1, fun v q => nomatch q⟩
    · rw [y]
      exact ⟨_, h2, fun v q => nomatch q⟩
    · rw [y]
      exact ⟨_, h3, fun v q => nomatch q⟩
    · rw [y]
      exact ⟨o4, h4, fun v q => by rw [d4] at q; cases q⟩
    · rw [y]
      exact ⟨o5, h5, fun v q => by rw [d5] at q; cases q⟩
  keep := fun i h h' st k => by
    obtain ⟨h1, h2, ⟨x1, x2, h3⟩, h4, h5⟩ := st
    exact ⟨k zz (by simp) _ h1, k TI (by simp) _ h2, ⟨x1, x2, k TO (by simp) _ h3⟩, (let ⟨o, e, r⟩ := h4; ⟨o, k i1 (by simp) _ e, r⟩), (let ⟨o, e, r⟩ := h5; ⟨o, k i2 (by simp) _ e, r⟩)⟩
  item := by
    intro X hP hw hK hc i pins s σ H E I hf st hg
    subst hP hw hK
    obtain ⟨xs, x, c, sq, hx, hcz⟩ := hg
    obtain ⟨its, rv, pt, _⟩ := I.tuple sq
    have D := WalksT.zipD2 (prog := X.prog) (w := X.w) (A := X.A) S (Draws.text (A := X.A.in1) (I.ok.hd hc) i1 z t0) (Draws.tuple (A := X.A.in1) (I.ok.hd hc) i2 a hai its.toArray)
    obtain ⟨u, hu, ru⟩ := rv.get hx
    have lt : i < min z.cps.size its.toArray.size := by
      have q2 := (List.getElem?_eq_some_iff.mp hu).1
      exact Nat.lt_min.mpr ⟨(Array.getElem?_eq_some_iff.mp hcz).1, q2⟩
    obtain ⟨k1, k2, k3, k4, k5⟩ := st
    refine D.item i s _ _ lt ⟨k1, k2, k3, k4, k5, pt⟩ fun T vals h1 tk hv hT tup mid m1 => ?_
    obtain ⟨v1, v2, ⟨c', tt, hc', rfl⟩, hy, rfl⟩ := hv
    obtain rfl : c' = c := Option.some.inj (hc'.symm.trans hcz)
    obtain rfl : v2 = u := by
      have : its[i]? = some v2 := by simpa using hy
      exact Option.some.inj (this.symm.trans hu)
    refine ⟨_, rfl, D.go elts kk tpos i T _ _ _ mid fun h2 st2 m2 => ?_⟩
    have tup2 : h2.IsTuple T #[.str ⟨#[c']⟩ tt, v2] := tup.at fun o q => m2 T o (D.apart i T h1 mid) q
    have wr : ∀ b, b ∉ [zz, TI, TO, i1, i2] → b ∉ [zz, TO, i1, i2] := fun b hb z => hb (by
      simp only [List.mem_cons, List.not_mem_nil, or_false] at z ⊢
      rcases z with z | z | z | z
      · exact .inl z
      · exact .inr (.inr (.inl z))
      · exact .inr (.inr (.inr (.inl z)))
      · exact .inr (.inr (.inr (.inr z))))
    have I1 : Inv X pins σ (upd H T (.tup [.str ⟨#[c']⟩, x])) { s with heap := h2, toks := tk } :=
      I.turnedNew (ch := [zz, TI, TO, i1, i2]) (fun b o hb q => m2 b o (wr b hb) (m1 b o (wr b hb) q)) hf hT ⟨by show 2 ≤ sizeLine; decide, [.str ⟨#[c']⟩ tt, v2], .cons ⟨_, rfl⟩ (.cons ru .nil), tup2⟩
    obtain ⟨n1, n2, n3, n4, n5, _⟩ := st2
    refine ⟨.ref T, _, I1, rfl, ⟨T, x, c', rfl, I.hok.fresh hT, rfl, hcz, fun ys hy => by rw [I.tuple_inj hy sq]; exact hx⟩, ⟨n1, n2, n3, n4, n5⟩, fun b hb => ?_⟩
    have lb : b < s.heap.objs.size := by
      obtain ⟨x1, x2, k3⟩ := k3
      obtain ⟨o4, h4, _⟩ := k4
      obtain ⟨o5, h5, _⟩ := k5
      have e : b = zz ∨ b = TI ∨ b = TO ∨ b = i1 ∨ b = i2 := by simpa using hb
      rcases e with y | y | y | y | y
      · rw [y]; exact Heap.lt_size k1
      · rw [y]; exact Heap.lt_size k2
      · rw [y]; exact Heap.lt_size k3
      · rw [y]; exact Heap.lt_size h4
      · rw [y]; exact Heap.lt_size h5
    rw [upd_ne (Nat.ne_of_lt (Nat.lt_of_lt_of_le lb hT))]
    exact (hf b hb).1
  done := by
    intro X hP hw hK hc i pins s σ H E I hf st hg
    subst hP hw hK
    obtain ⟨xs, sq, hx⟩ := hg
    obtain ⟨its, rv, pt, _⟩ := I.tuple sq
    have D := WalksT.zipD2 (prog := X.prog) (w := X.w) (A := X.A) S (Draws.text (A := X.A.in1) (I.ok.hd hc) i1 z t0) (Draws.tuple (A := X.A.in1) (I.ok.hd hc) i2 a hai its.toArray)
    have en : min z.cps.size its.toArray.size = i := by
      rw [hx, rv.length]
      rfl
    rw [← en] at st
    obtain ⟨k1, k2, k3, k4, k5⟩ := st
    refine D.done s _ _ ⟨k1, k2, k3, k4, k5, pt⟩ fun h1 tk m1 => ⟨rfl, I.turnedL (ch := [zz, TI, TO, i1, i2]) (fun b o hb q => m1 b o (fun z => hb ?_) q) hf⟩
    simp only [List.mem_cons, List.not_mem_nil, or_false] at z ⊢
    rcases z with z | z | z | z
    · exact .inl z
    · exact .inr (.inr (.inl z))
    · exact .inr (.inr (.inr (.inl z)))
    · exact .inr (.inr (.inr (.inr z)))
  self := fun A i s Q E st hQ => wpAny_pyIter_zip st.1 hQ
theorem ne_a {a b : Nat} (h : a < b ∨ b < a) : (a : Addr) ≠ (b : Addr) := fun e => by
  have e : a = b := e
  omega
theorem nin1 {x y : Addr} (h : x ≠ y) : x ∉ [y] := fun z => h (List.mem_singleton.mp z)
theorem nin2 {x y a : Addr} (h : x ≠ y) (k : x ≠ a) : x ∉ [y, a] := fun z => (List.mem_cons.mp z).elim h fun z => k (List.mem_singleton.mp z)
theorem sep_nat (N a : Nat) (h : a < N) : ZipSep2 (N + 4) (N + 2) (N + 3) N (N + 1) [N] [N + 1, a] :=
  ⟨ne_a (by omega), ne_a (by omega), ne_a (by omega), ne_a (by omega), List.mem_cons_self, nin1 (ne_a (by omega)), nin1 (ne_a (by omega)), ne_a (by omega), List.mem_cons_self, nin2 (ne_a (by omega)) (ne_a (by omega)), nin2 (ne_a (by omega)) (ne_a (by omega)), nin2 (ne_a (by omega)) (ne_a (by omega)), nin1 (ne_a (by omega))⟩
theorem le_nat (N b : Nat) (h : (b : Addr) ∈ ([N + 4, N + 2, N + 3, N, N + 1] : List Addr)) : N ≤ b := by
  have e : b = N + 4 ∨ b = N + 2 ∨ b = N + 3 ∨ b = N ∨ b = N + 1 := by
    rcases List.mem_cons.mp h with z | h
    · exact .inl z
    rcases List.mem_cons.mp h with z | h
    · exact .inr (.inl z)
    rcases List.mem_cons.mp h with z | h
    · exact .inr (.inr (.inl z))
    rcases List.mem_cons.mp h with z | h
    · exact .inr (.inr (.inr (.inl z)))
    · exact .inr (.inr (.inr (.inr (List.mem_singleton.mp h))))
  omega
theorem ne_nat (N a : Nat) (h : a < N) : (a : Addr) ≠ N + 1 := ne_a (by omega)
def iZipZ (K : PySem.W.Frag) (ta : TA) : TI := fun σ H R => ta σ H fun vs H1 => ∃ (z : Str) (a : Addr) (xs : List V), vs = [.str z, .ref a] ∧ SqT K H1 a xs ∧ R (ItZ K z a) H1
theorem pi_zipZ {X : Cx} (K : PySem.W.Frag) (hK : X.K = K) {e e2 : Expr} {ta : TA} {p pos tpos : Pos} {elts : List Expr} {kk : Nat} (hg : Gl X "zip") (hm : X.mg "zip" = none) (ha : PA X [e, e2] ta)
    (hs : starEach [e, e2] X.env = (false, eval e X.env) :: starEach [e2] X.env := by rfl) (hpl : (backTo pos (starEach [e2] X.env)).any (·.1) = false := by rfl) : PI X (.Tuple elts kk tpos) (.Call (.Name "zip" p) [e, e2] [] pos) (iZipZ K ta) := by
  subst hK
  refine ⟨fun pins s σ H R I h => ?_⟩
  refine Call_ (ld_blt I hg hm PyProof.Rows.boot_zip (PyProof.Rows.callWith_type1 (thn (ha.run pos pins s σ H _ I h) fun ws s2 ⟨vs, H2, I2, r2, q2⟩ => ?_) hs hpl))
  obtain ⟨z, a, xs, ex, sq, q⟩ := q2
  subst ex
  obtain ⟨u1, u2, rfl, ⟨t, rfl⟩, ra⟩ := r2.two
  obtain rfl : u2 = Value.ref a := ra
  obtain ⟨its, rv, pt, _⟩ := I2.tuple sq
  have la : a < s2.heap.objs.size := by
    have ⟨o, ho, _⟩ := pt
    exact Heap.lt_size ho
  refine zip_begins2 (begins_text z t) (begins_tuple a its.toArray) trivial pt fun h' hz hTI hTO h1 h2 _ hk => wpAny_pyIter_zip hz ?_
  have I3 : Inv X pins σ H2 { s2 with heap := h' } := I2.kept (t' := s2.toks) hk
  refine ⟨s2.heap.objs.size + 4, [s2.heap.objs.size + 4, s2.heap.objs.size + 2, s2.heap.objs.size + 3, s2.heap.objs.size, s2.heap.objs.size + 1], _, _, H2, rfl, I3, turn_Z z t a _ _ _ _ _ (sep_nat s2.heap.objs.size a la) (ne_nat s2.heap.objs.size a la), ⟨hz, hTI, ⟨_, _, hTO⟩, ⟨_, h1, rfl, rfl⟩, ⟨_, h2, rfl, rfl⟩⟩, fun b hb => ?_, q⟩
  have le := le_nat s2.heap.objs.size b hb
  exact I2.fpOk le (I2.hok.fresh le)
end LH

namespace LH
open PySem PySem.Spec PyProof.Rows L2
/-! ### list[::k], k one or minus one -/
theorem kpick1 (items : Array Value) : slicePick items none none (some 1) = items.toList.toArray := by
  show slicePick items none none none = _
  rw [slicePick_all, Array.toArray_toList]
def tStepL (K : PySem.W.Frag) (te ts : TE) : TE := fun σ H Q => te σ H fun x H1 => ts σ H1 fun y H2 => ∃ (a : Addr) (xs : List V) (k : Int), x = .ref a ∧ y = .int k ∧ SqL K H2 a xs ∧ (k = 1 ∨ k = -1) ∧ ∀ p, H2 p = none → Q (.ref p) (upd H2 p (.lst (if k = 1 then xs else xs.reverse)))
theorem pe_stepL {X : Cx} (K : PySem.W.Frag) (hK : X.K = K) {e f : Expr} {te ts : TE} {p3 pos : Pos} (he : PE X e te) (hf : PE X f ts) : PE X (.Subscript e (.Slice none none (some f) p3) pos) (tStepL K te ts) := by
  subst hK
  refine ⟨fun pins s σ H Q I h => ?_⟩
  refine Subscript_ (thn (he.run pins s σ H _ I h) fun v s1 ⟨x, H1, I1, r1, q1⟩ => ?_)
  refine wpAny_Slice (thn (po_none.run pins s1 σ H1 (fun o H2 => o = none ∧ H2 = H1) I1 ⟨rfl, rfl⟩) fun vl s2 ⟨l, H2, I2, pl, el, e2⟩ => ?_)
  subst el e2
  refine thn (po_none.run pins s2 σ H2 (fun o H3 => o = none ∧ H3 = H2) I2 ⟨rfl, rfl⟩) fun vu s3 ⟨u, H3, I3, pu, eu, e3⟩ => ?_
  subst eu e3
  rw [evalPart_some]
  refine thn (hf.run pins s3 σ H3 _ I3 q1) fun vs s4 ⟨y, H4, I4, r4, q4⟩ => ?_
  obtain ⟨a, xs, k, ex, ey, hx, hk, q⟩ := q4
  subst ex ey
  cases r1
  obtain ⟨tk, rfl⟩ := r4
  have I5 : Inv X pins σ H4 { s4 with heap := s4.heap.push { cls := .type "slice", data := .fields #[vl, vu, .int k tk] } } := I4.kept (t' := s4.toks) fun b ob q => Heap.get?_push_of_some _ q
  obtain ⟨its, r, ht, hz⟩ := I5.list hx
  have hlen := r.length
  show wpAny (model X.prog X.w) X.A (subscriptTail e (.Slice none none (some f) p3) (.ref a) (.ref s4.heap.objs.size)) (EP X pins σ Q) X.xe { s4 with heap := s4.heap.push { cls := .type "slice", data := .fields #[vl, vu, .int k tk] } }
  refine tail_any (ops := [.ref a, .ref s4.heap.objs.size]) ht.isList.typeIs (PySem.slot_list_getitem.lookup) ?_ (by with_unfolding_all rfl)
  refine wpAny_getItem_list_slice ht.isList (Heap.IsSliceOf.new _ vl vu (.int k tk)) pl pu (.int k tk) (by rcases hk with rfl | rfl <;> decide) ?_ (by rw [List.size_toArray]; omega)
  rcases hk with rfl | rfl
  · rw [kpick1]
    refine ⟨.ref _, _, I5.laid (t' := s4.toks) (o := .lst xs) (fun b ob q => Heap.get?_push_of_some _ q) (Nat.le_refl _) ?_, rfl, q _ (I5.hok.fresh (Nat.le_refl _))⟩
    exact ⟨hz, its, 0, r, Heap.get?_push_size _ rfl⟩
  · rw [PySem.W.krv_pick]
    refine ⟨.ref _, _, I5.laid (t' := s4.toks) (o := .lst xs.reverse) (fun b ob q => Heap.get?_push_of_some _ q) (Nat.le_refl _) ?_, rfl, q _ (I5.hok.fresh (Nat.le_refl _))⟩
    exact ⟨by rw [List.length_reverse]; exact hz, _, 0, r.reverse, Heap.get?_push_size _ rfl⟩
/-! ### for k in a dict that has just been made: it stays locked -/
def iKeysN (td : TE) : TI := fun σ H R => td σ H fun x H1 => ∃ d kvs, x = .ref d ∧ H1 d = some (.dK kvs) ∧ ∀ o, R (Itk d o kvs) (upd H1 d (.frz o (.dK kvs)))
theorem pi_keysN {X : Cx} {tg e : Expr} {td : TE} (he : PE X e td) : PI X tg e (iKeysN td) := by
  refine ⟨fun pins s σ H R I h => ?_⟩
  refine thn (he.run pins s σ H _ I h) fun u s1 ⟨x, H1, I1, rx, d, kvs, ex, hd, q⟩ => ?_
  subst ex
  obtain rfl : u = Value.ref d := rx
  obtain ⟨od, I2⟩ := I1.lock hd trivial
  obtain ⟨hs, hgd, hx, es, ep, vs, hdt, hsz, kv, hm⟩ := I2.frzK upd_same
  refine iter_keys hs hgd hx hdt (pi_one (tk := s1.toks) I2 _ (turn_keys _ hdt) ⟨_, Heap.get?_push_size _ rfl, rfl, ?_⟩ (q od))
  rw [hsz] <;> rfl
end LH

namespace LH
open PySem PySem.Spec PyProof.Rows L2
/-! ### list(enumerate(list)) -/
/-- an iterator I whose items go into the list at S: what is known after i items vs; the counter of what is made may go on -/
structure WkT (prog : Program) (w : World) (A : Around) (I S : Addr) (n : Nat) (kp : Addr → Prop) (St : Nat → List Value → Heap → Prop) (Fi : List Value → Heap → Prop) : Prop where
  frame : ∀ i vs h h', St i vs h → h.objs.size ≤ h'.objs.size → (∀ b o, b ≠ S → h.get? b = some o → h'.get? b = some o) → St i vs h'
  item : ∀ i vs (s : Shared) (Q : Option Value → Shared → Prop) (E : Value → Shared → Prop), i < n → St i vs s.heap →
    (∀ v h' tk, St (i + 1) (vs ++ [v]) h' → (∀ b o, kp b → s.heap.get? b = some o → h'.get? b = some o) → Q (some v) { s with heap := h', toks := tk }) → wpAny (model prog w) A (pyNext (.ref I)) Q E s
  done : ∀ vs (s : Shared) (Q : Option Value → Shared → Prop) (E : Value → Shared → Prop), St n vs s.heap → (∀ h', Fi vs h' → (∀ b o, kp b → s.heap.get? b = some o → h'.get? b = some o) → Q none { s with heap := h' }) → wpAny (model prog w) A (pyNext (.ref I)) Q E s
  self : ∀ vs (s : Shared) (Q : Value → Shared → Prop) (E : Value → Shared → Prop), St 0 vs s.heap → Q (.ref I) s → wpAny (model prog w) A (pyIter (.ref I)) Q E s
section
variable {prog : Program} {w : World} {A : Around} {s : Shared} {I S : Addr} {n : Nat} {kp : Addr → Prop} {St : Nat → List Value → Heap → Prop} {Fi : List Value → Heap → Prop}
theorem loopT {R : Result → Shared → Prop} (W : WkT prog w A.in1 I S n kp St Fi) (kS : kp S) (hn : n ≤ sizeLine) (res : Value) {h₁ : Heap}
    (hR : ∀ h' tk acc c, (∀ b o, b ≠ S → kp b → h₁.get? b = some o → h'.get? b = some o) → h'.get? S = some { cls := .type "list", dict := none, data := .seq acc c, slots := #[] } → Fi acc.toList h' → acc.size = n → R (.ok (.ret res)) { s with heap := h', toks := tk }) :
    ∀ (k i : Nat) (h : Heap) (tk c : Nat) (acc : Array Value), n - i = k → i ≤ n → St i acc.toList h → acc.size = i → (∀ b o, b ≠ S → kp b → h₁.get? b = some o → h.get? b = some o) →
      h.get? S = some { cls := .type "list", dict := none, data := .seq acc c, slots := #[] } →
      codeAny (model prog w) A (.builtin "list.extend.loop" ⟨[.ref S, .ref I, res], []⟩) R { s with heap := h, toks := tk } := by
  intro k
  induction k with
  | zero =>
    intro i h tk c acc hk hi hst hsz hkeep hS
    obtain rfl : i = n := by omega
    refine codeAny_builtin F.entry_extend_loop ?_
    rw [Around.under_plainId F.plain_extend_loop _]
    show wpAny _ A.in1 (pyNext (.ref I) >>= _) _ _ _
    refine wpAny_bind (W.done acc.toList { s with heap := h, toks := tk } _ _ hst fun h' fi kp' => ?_)
    exact wpAny_pure (hR h' tk acc c (fun b o h1 h2 e => kp' b o h2 (hkeep b o h1 h2 e)) (kp' S _ kS hS) fi hsz)
  | succ k ih =>
    intro i h tk c acc hk hi hst hsz hkeep hS
    have hlt : i < n := by omega
    refine codeAny_builtin F.entry_extend_loop ?_
    rw [Around.under_plainId F.plain_extend_loop _]
    show wpAny _ A.in1 (pyNext (.ref I) >>= _) _ _ _
    refine wpAny_bind (W.item i acc.toList { s with heap := h, toks := tk } _ _ hlt hst fun v h' tk' st' kp' => ?_)
    dsimp only at kp' ⊢
    have hS' := kp' S _ kS hS
    have up : ∀ b o, b ≠ S → h'.get? b = some o → (h'.update S (Obj.mapSeq (·.push v))).get? b = some o := fun b o hb e => (Heap.get?_update_other _ _ (Ne.symm hb)).trans e
    show wpAny _ A.in1 (updateSeq S (·.push v) >>= _) _ _ _
    refine wpAny_bind ?_
    refine wpAny_updateSeq hS' rfl (wpAny_pure ⟨plainId_quiet F.plain_extend_loop _, ih (i + 1) _ tk' _ (acc.push v) (by omega) hlt ?_ (by rw [Array.size_push, hsz])
      (fun b o h1 h2 e => up b o h1 (kp' b o h2 (hkeep b o h1 h2 e))) (Heap.get?_update_self _ hS' rfl)⟩) (by rw [hsz]; omega) (by show (acc.push v).size ≤ sizeLine + 1; rw [Array.size_push, hsz]; omega)
    rw [Array.toList_push]
    exact W.frame _ _ h' _ st' (by rw [Heap.size_update]; exact Nat.le_refl _) up
end
section
variable {prog : Program} {w : World} {A : Around} {E : Value → Shared → Prop} {s : Shared} {I : Addr} {n : Nat} {kp : Addr → Prop} {St : Nat → List Value → Heap → Prop} {Fi : List Value → Heap → Prop}
theorem list_T {T : String} {Q : Value → Shared → Prop} (hl : typeLookup (.type T) "__len__" = pure none) (hn0 : typeLookup (.type T) "__length_hint__" = pure none)
    (t2 : (Value.type T == Value.type "list") = false) (t3 : (Value.type T == Value.type "tuple") = false)
    (W : WkT prog w A.in1.in1 I s.heap.objs.size n kp St Fi) (kS : kp s.heap.objs.size) (hT : ∀ i vs (s : Shared), St i vs s.heap → s.TypeIs (.ref I) T) (hst : ∀ o, St 0 [] (s.heap.push o)) (hI : I < s.heap.objs.size)
    (hQ : ∀ h' tk acc c, (∀ b o, kp b → s.heap.get? b = some o → h'.get? b = some o) → h'.get? s.heap.objs.size = some { cls := .type "list", dict := none, data := .seq acc c, slots := #[] } → Fi acc.toList h' → acc.size = n → Q (.ref s.heap.objs.size) { s with heap := h', toks := tk }) (hn : n ≤ sizeLine) :
    wpAny (model prog w) A (call (.type "list") [.ref I]) Q E s := by
  have hSI : s.heap.objs.size ≠ I := Nat.ne_of_gt hI
  refine callType_codes (Q₁ := fun obj s₁ => obj = .ref s.heap.objs.size ∧ s₁ = { s with heap := s.heap.push { cls := .type "list", data := .seq #[] } }) F.called_list (F.typeCall_list_1 _) F.entry_list_init
    (code_list_new _ ⟨rfl, rfl⟩) fun obj s₁ h₁ => ?_
  obtain ⟨rfl, rfl⟩ := h₁
  have hS : (s.heap.push { cls := .type "list", data := .seq #[] }).get? s.heap.objs.size = some { cls := .type "list", data := .seq #[] } := Heap.get?_push_size _ rfl
  have st0 := hst { cls := .type "list", data := .seq #[] }
  refine ⟨⟨_, hS, rfl⟩, F.args_list_init_2 _ _, ?_⟩
  show wpAny _ A.in1.in1 (do let old ← Builtin.List.listItems (.ref s.heap.objs.size); Builtin.List.listUpdate (.ref s.heap.objs.size) (fun _ => #[]); letGo old.toList.reverse; Builtin.List.listExtendWith (.ref s.heap.objs.size) (.ref I) .none) _ _ _
  refine wpAny_bind ?_
  unfold Builtin.List.listItems
  refine wpAny_bind (wpAny_seqItems hS rfl (wpAny_pure ?_))
  show wpAny _ A.in1.in1 (updateSeq s.heap.objs.size (fun _ => #[]) >>= fun _ => letGo (#[] : Array Value).toList.reverse >>= fun _ => Builtin.List.listExtendWith (.ref s.heap.objs.size) (.ref I) .none) _ _ _
  refine wpAny_bind (wpAny_updateSeq hS rfl ?_)
  have hS2 := Heap.get?_update_self (Obj.mapSeq (fun _ => (#[] : Array Value))) hS rfl
  have up : ∀ (h : Heap) (f : Obj → Obj) b o, b ≠ s.heap.objs.size → h.get? b = some o → (h.update s.heap.objs.size f).get? b = some o := fun h f b o hb e => (Heap.get?_update_other _ _ (Ne.symm hb)).trans e
  have st1 := W.frame _ _ _ ((s.heap.push { cls := .type "list", data := .seq #[] }).update s.heap.objs.size (Obj.mapSeq (fun _ => (#[] : Array Value)))) st0 (by rw [Heap.size_update]; exact Nat.le_refl _) (up _ _)
  have k1 : ∀ b o, b ≠ s.heap.objs.size → kp b → s.heap.get? b = some o → ((s.heap.push { cls := .type "list", data := .seq #[] }).update s.heap.objs.size (Obj.mapSeq (fun _ => (#[] : Array Value)))).get? b = some o := fun b o hb _ e => up _ _ b o hb (Heap.get?_push_of_some _ e)
  refine wpAny_bind (wpAny_letGo ?_)
  unfold Builtin.List.listExtendWith
  refine wpAny_bind (wpAny_typeOf (T := T) (hT 0 [] { s with heap := _ } st1) ?_)
  have t1 : Builtin.List.listSameRef (.ref s.heap.objs.size) (.ref I) = false := by simp [Builtin.List.listSameRef, hSI]
  simp only [t1, t2, t3, Bool.or_false, Bool.false_eq_true, if_false]
  refine wpAny_bind (W.self [] _ _ _ st1 ?_)
  refine wpAny_bind (wpAny_holding ?_)
  unfold Builtin.List.listLengthHint
  refine wpAny_bind (wpAny_specialOf (hT 0 [] { s with heap := _ } st1) hl ?_)
  show wpAny _ A.in1.in1 (specialOf (Value.ref I) (Str.ofString "__length_hint__") >>= _) _ _ _
  refine wpAny_bind (wpAny_specialOf (hT 0 [] { s with heap := _ } st1) hn0 ?_)
  refine wpAny_pure ?_
  show wpAny _ A.in1.in1 (rule "list.extend.makes-room" >>= fun _ => Builtin.List.listTouch (.ref s.heap.objs.size) >>= fun _ =>
    again (.builtin "list.extend.loop" ⟨[.ref s.heap.objs.size, .ref I, .none], []⟩)) _ _ _
  refine wpAny_bind (wpAny_rule ?_)
  refine wpAny_bind ?_
  show wpAny _ A.in1.in1 (updateSeq s.heap.objs.size (·.push .none) >>= fun _ => updateSeq s.heap.objs.size (·.pop)) _ _ _
  refine wpAny_bind (wpAny_updateSeq hS2 rfl ?_)
  have hS3 := Heap.get?_update_self (Obj.mapSeq (·.push Value.none)) hS2 rfl
  refine wpAny_updateSeq (hz := by seq_fits) hS3 rfl ?_
  have hS4 := Heap.get?_update_self (Obj.mapSeq (·.pop)) hS3 rfl
  refine wpAny_pure ⟨plainId_quiet F.plain_extend_loop _, loopT (s := s) (R := wants (fun r s₂ => r = Value.none ∧ Q (.ref s.heap.objs.size) s₂) E) (h₁ := s.heap) W kS hn .none (fun h' tk acc c kk hS' fi hz => ⟨rfl, hQ h' tk acc c (fun b o kb e => kk b o (Nat.ne_of_lt (Heap.lt_size e)) kb e) hS' fi hz⟩) n 0 _ s.toks _ #[] (Nat.sub_zero _) (Nat.zero_le _) ?_ rfl ?_ hS4⟩
  · exact W.frame _ _ _ _ st1 (by simp only [Heap.size_update]; exact Nat.le_refl _) fun b o hb e => up _ _ b o hb (up _ _ b o hb e)
  · exact fun b o hb kb e => up _ _ b o hb (up _ _ b o hb (k1 b o hb kb e))
end
abbrev IsTwo (h : Heap) (t : Addr) (x y : Value) : Prop := h.get? t = some { cls := .type "tuple", data := .seq #[x, y] }
def PrsE (xs : Array Value) (lo : Nat) (ts : List Nat) (h : Heap) : Prop := ∀ (j : Nat) (t : Nat), ts[j]? = some t → lo ≤ t ∧ ∃ x tk, xs[j]? = some x ∧ IsTwo h t (.int (j : Nat) tk) x
def ESt (e it l lo : Nat) (xs : Array Value) : Nat → List Value → Heap → Prop := fun i vs h =>
  lo ≤ h.objs.size ∧ h.IsListIter it l i ∧ h.IsList l xs ∧
  ∃ ts : List Nat, vs = ts.map Value.ref ∧ ts.length = i ∧ ts.Nodup ∧ PrsE xs lo ts h ∧
    ((i = 0 ∧ IsEnum h e it ((0 : Nat) : Int) .none) ∨ ∃ (T : Nat) (f : Bool) (x : Value), IsEnumHeld h e it ((i : Nat) : Int) x T f ∧ T ∈ ts)
def EFi (lo : Nat) (xs : Array Value) : List Value → Heap → Prop := fun vs h => ∃ ts : List Nat, vs = ts.map Value.ref ∧ ts.Nodup ∧ PrsE xs lo ts h
theorem walk_en {prog : Program} {w : World} {A : Around} {e it l S lo : Nat} {xs : Array Value} (hh : A.handled = none) (hei : @Ne Nat e it) (hle : @Ne Nat l e) (hli : @Ne Nat l it)
    (b1 : e < lo) (b2 : it < lo) (b6 : S < lo) (n1 : @Ne Nat e S) (n2 : @Ne Nat it S) (n6 : @Ne Nat l S) :
    WkT prog w A e S xs.size (fun b => b ≠ e ∧ b ≠ it) (ESt e it l lo xs) (EFi lo xs) where
  frame := fun i vs h h' ⟨a1, a3, a5, ts, a7, a8, a9, a10, a11⟩ hs k => by
    refine ⟨Nat.le_trans a1 hs, a3.at fun o q => k _ o n2 q, a5.at fun o q => k _ o n6 q, ts, a7, a8, a9, fun j t hj => ?_, ?_⟩
    · obtain ⟨c1, x, tk, c2, c4⟩ := a10 j t hj
      exact ⟨c1, x, tk, c2, k _ _ (by show @Ne Nat _ _; omega) c4⟩
    · rcases a11 with ⟨c1, c2⟩ | ⟨T, f, x, c1, c2⟩
      · exact .inl ⟨c1, k _ _ n1 c2⟩
      · exact .inr ⟨T, f, x, k _ _ n1 c1, c2⟩
  item := fun i vs s Q E hi ⟨a1, a3, a5, ts, a7, a8, a9, a10, a11⟩ hQ => by
    have hx : xs[i]? = some xs[i] := Array.getElem?_eq_getElem hi
    generalize xs[i] = x at hx
    have old : ∀ t : Nat, t ∈ ts → lo ≤ t ∧ t < s.heap.objs.size := fun t ht => by
      obtain ⟨j, hj⟩ := List.mem_iff_getElem?.mp ht
      obtain ⟨c1, _, _, _, c4⟩ := a10 j t hj
      exact ⟨c1, Heap.lt_size c4⟩
    have nd : (ts ++ [s.heap.objs.size]).Nodup := List.nodup_append.mpr ⟨a9, by simp, fun t ht u hu q => by
      rw [List.mem_singleton.mp hu] at q
      have := (old t ht).2
      omega⟩
    have prs : ∀ h' : Heap, IsTwo h' s.heap.objs.size (.int (i : Nat) s.toks) x → (∀ c o, c ≠ e → c ≠ it → s.heap.get? c = some o → h'.get? c = some o) → PrsE xs lo (ts ++ [s.heap.objs.size]) h' := fun h' hp hk j t hj => by
      by_cases hl : j < ts.length
      · rw [List.getElem?_append_left hl] at hj
        obtain ⟨c1, x', tk', c2, c4⟩ := a10 j t hj
        exact ⟨c1, x', tk', c2, hk _ _ (by show @Ne Nat _ _; omega) (by show @Ne Nat _ _; omega) c4⟩
      · rw [List.getElem?_append_right (by omega)] at hj
        have e0 : j - ts.length = 0 := by
          cases q : j - ts.length with
          | zero => rfl
          | succ k =>
            rw [q] at hj
            simp at hj
        rw [e0] at hj
        cases hj
        have ej : j = i := by omega
        subst ej
        exact ⟨a1, x, _, hx, hp⟩
    have e1 : vs ++ [Value.ref s.heap.objs.size] = (ts ++ [s.heap.objs.size]).map Value.ref := by
      rw [a7, List.map_append]
      rfl
    have e2 : (ts ++ [s.heap.objs.size]).length = i + 1 := by
      rw [List.length_append, a8]
      rfl
    rcases a11 with ⟨c1, c2⟩ | ⟨T, f, y, c1, c2⟩
    · have c2 : IsEnum s.heap e it ((i : Nat) : Int) .none := by
        rw [c1]
        exact c2
      refine wpAny_pyNext_enum_item c2 a3 a5 hx hei fun h' z' h1' hT hsz hk => ?_
      exact hQ _ h' _ ⟨by omega, h1', a5.at fun o q => hk _ o hle hli q, ts ++ [s.heap.objs.size], e1, e2, nd, prs h' hT hk, .inr ⟨s.heap.objs.size, false, x, z', List.mem_append_right _ (List.mem_singleton.mpr rfl)⟩⟩ fun b o kb q => hk b o kb.1 kb.2 q
    · obtain ⟨j, hj⟩ := List.mem_iff_getElem?.mp c2
      obtain ⟨lo1, _, _, _, c4⟩ := a10 j T hj
      refine wpAny_pyNext_enum_item_held c1 c4 (by show @Ne Nat _ _; omega) (by show @Ne Nat _ _; omega) a3 a5 hx hei fun h' z' h1' hT hsz hk => ?_
      exact hQ _ h' _ ⟨by omega, h1', a5.at fun o q => hk _ o hle hli q, ts ++ [s.heap.objs.size], e1, e2, nd, prs h' hT hk, .inr ⟨T, true, y, z', List.mem_append_left _ c2⟩⟩ fun b o kb q => hk b o kb.1 kb.2 q
  done := fun vs s Q E ⟨a1, a3, a5, ts, a7, a8, a9, a10, a11⟩ hQ => by
    have hx : xs[xs.size]? = none := Array.getElem?_eq_none (Nat.le_refl _)
    have prs : ∀ h' : Heap, (∀ c o, c ≠ it → s.heap.get? c = some o → h'.get? c = some o) → PrsE xs lo ts h' := fun h' hk j t hj => by
      obtain ⟨c1, x', tk', c2, c4⟩ := a10 j t hj
      exact ⟨c1, x', tk', c2, hk _ _ (by show @Ne Nat _ _; omega) c4⟩
    rcases a11 with ⟨c1, c2⟩ | ⟨T, f, y, c1, c2⟩
    · have c2 : IsEnum s.heap e it ((xs.size : Nat) : Int) .none := by
        rw [c1]
        exact c2
      exact wpAny_pyNext_enum_end hh c2 a3 a5 hx fun h' hk => hQ h' ⟨ts, a7, a9, prs h' fun c o n q => hk c o n q⟩ fun b o kb q => hk b o kb.2 q
    · exact wpAny_pyNext_enum_end_held hh c1 a3 a5 hx fun h' hk => hQ h' ⟨ts, a7, a9, prs h' fun c o n q => hk c o n q⟩ fun b o kb q => hk b o kb.2 q
  self := fun vs s Q E ⟨_, _, _, ts, _, a8, _, _, a11⟩ h => by
    rcases a11 with ⟨c1, c2⟩ | ⟨T, f, y, c1, c2⟩
    · exact wpAny_pyIter_enum c2 h
    · rw [List.length_eq_zero_iff.mp a8] at c2
      exact absurd c2 (by simp)
theorem en_type {e it l lo : Nat} {xs : Array Value} (i : Nat) (vs : List Value) (s : Shared) (h : ESt e it l lo xs i vs s.heap) : s.TypeIs (.ref e) "enumerate" := by
  obtain ⟨_, _, _, ts, _, _, _, _, a11⟩ := h
  rcases a11 with ⟨c1, c2⟩ | ⟨T, f, y, c1, c2⟩
  · exact ⟨_, c2, rfl⟩
  · exact ⟨_, c1, rfl⟩
theorem enum_nolen : typeLookup (.type "enumerate") "__len__" = pure none := by rw [typeLookup_type, builtinLookup_eq_fast]; kernel_rfl
theorem enum_nohint : typeLookup (.type "enumerate") "__length_hint__" = pure none := by rw [typeLookup_type, builtinLookup_eq_fast]; kernel_rfl
/-- the parts of a row, each with its place -/
def PrE (H : Hp) (xs : List V) (bas : List Addr) : Prop := bas.length = xs.length ∧ ∀ (j : Nat) (c : Addr), bas[j]? = some c → ∃ x, xs[j]? = some x ∧ H c = some (.tup [.int (j : Nat), x])
def tListEnum (K : PySem.W.Frag) (ta : TA) : TE := fun σ H Q => ta σ H fun vs H1 => ∃ (a : Addr) (xs : List V), vs = [.ref a] ∧ SqL K H1 a xs ∧
  ∀ (H' : Hp) (p : Addr) (bas : List Addr), Same H1 H' → H1 p = none → H' p = some (.lst (bas.map V.ref)) → PrE H' xs bas → Q (.ref p) H'
theorem pe_listEnum {X : Cx} {e : Expr} {ta : TA} {p p2 q pos : Pos} (K : PySem.W.Frag) (hK : X.K = K) (hg : Gl X "list") (hm : X.mg "list" = none) (hg2 : Gl X "enumerate") (hm2 : X.mg "enumerate" = none) (ha : PA X [e] ta) (hc : X.calm = true := by rfl)
    (hs : starEach [e] X.env = [(false, eval e X.env)] := by rfl) : PE X (.Call (.Name "list" p) [.Call (.Name "enumerate" p2) [e] [] q] [] pos) (tListEnum K ta) := by
  subst hK
  refine ⟨fun pins s σ H Q I h => ?_⟩
  refine Call_ (ld_blt I hg hm boot_list ?_)
  refine callWith_type1 (args_cons ?_ rfl) rfl rfl
  refine Call_ (ld_blt I hg2 hm2 boot_enumerate ?_)
  refine callWith_type1 (thn (ha.run q pins s σ H _ I h) fun us s1 ⟨vs, H1, I1, r1, q1⟩ => ?_) hs rfl
  obtain ⟨a, xs, rfl, hqx, q1⟩ := q1
  rw [Vals.ref1 r1]
  obtain ⟨its, rv, p1, hz1⟩ := I1.list hqx
  have la : @LT.lt Nat _ a s1.heap.objs.size := by
    obtain ⟨o, ho, _⟩ := p1.isList
    exact Heap.lt_size ho
  have l1 := rv.length
  refine call_enumerate_list p1.isList fun h' he hi hsz hk => ?_
  refine args_nil ?_
  have hh : X.A.handled = none := I1.ok.hd hc
  have W := walk_en (prog := X.prog) (w := X.w) (A := X.A.in1.in1) (e := s1.heap.objs.size + 1) (it := s1.heap.objs.size) (l := a) (S := h'.objs.size) (lo := h'.objs.size + 1) (xs := its.toArray) hh (by omega) (by omega) (by omega) (by omega) (by omega) (by omega) (by omega) (by omega) (by omega)
  refine list_T (s := { s1 with heap := h' }) enum_nolen enum_nohint (by decide) (by decide) W ⟨by show @Ne Nat _ _; show @Ne Nat h'.objs.size _; omega, by show @Ne Nat h'.objs.size _; omega⟩ (fun i vs s st => en_type i vs s st) (fun o => ?_) (by show @LT.lt Nat _ _ h'.objs.size; omega) (fun h2 tk acc c kk hS fi hn => ?_) (by rw [List.size_toArray, ← l1]; exact hz1)
  · exact ⟨by show _ ≤ (h'.push o).objs.size; rw [Heap.size_push]; exact Nat.le_refl _, hi.at fun o q => Heap.get?_push_of_some _ q, p1.isList.at fun o q => Heap.get?_push_of_some _ (hk _ _ q), [], rfl, rfl, List.nodup_nil, fun j t hj => by simp at hj, .inl ⟨rfl, Heap.get?_push_of_some _ he⟩⟩
  · obtain ⟨ts, ea, nd, prs⟩ := fi
    dsimp only at kk hS
    have up : ∀ b o, s1.heap.get? b = some o → h2.get? b = some o := fun b o q => by
      have : @LT.lt Nat _ b s1.heap.objs.size := Heap.lt_size q
      exact kk b o ⟨by show @Ne Nat _ _; omega, by show @Ne Nat _ _; omega⟩ (hk b o q)
    have hts : ts.length = xs.length := by
      have : acc.toList.length = ts.length := by rw [ea, List.length_map]
      rw [Array.length_toList, hn, List.size_toArray] at this
      omega
    have I2 : Inv X pins σ (upd H1 h'.objs.size (.lst (ts.map V.ref))) { s1 with heap := h2, toks := tk } := I1.laid (t' := tk) (a := h'.objs.size) (o := .lst (ts.map V.ref)) up (by show @LE.le Nat _ _ _; omega) ⟨by rw [List.length_map, hts]; exact hz1, acc.toList, c, by rw [ea]; exact vals_refs ts, by rw [Array.toArray_toList]; exact hS⟩
    have fS : H1 h'.objs.size = none := I1.hok.fresh (by show @LE.le Nat _ _ _; omega)
    obtain ⟨H2, I3, g, trk⟩ := L2.DX.takeT (P := fun c vs => ∀ j, ts[j]? = some c → ∃ x, xs[j]? = some x ∧ vs = [.int (j : Nat), x]) I1 ts _ I2 nd fun c hc => by
      obtain ⟨j, hj⟩ := List.mem_iff_getElem?.mp hc
      obtain ⟨hlo, u, tk2, hu, hp⟩ := prs j c hj
      obtain ⟨x, hx, rx⟩ := L2.DX.pget rv (by simpa using hu)
      refine ⟨by show @LE.le Nat _ _ _; omega, by rw [upd_ne (by show @Ne Nat _ _; omega)]; exact I1.hok.fresh (by show @LE.le Nat _ _ _; omega), [.int (j : Nat), x], fun j' hj' => ?_, fun H2 => ⟨by show 2 ≤ sizeLine; decide, [.int (j : Nat) tk2, u], .cons ⟨_, rfl⟩ (.cons rx .nil), ⟨_, hp, rfl, _, rfl⟩⟩⟩
      have ej : j' = j := by
        have d1 := (List.getElem?_eq_some_iff.mp hj').1
        have d2 := (List.getElem?_eq_some_iff.mp hj).1
        exact (List.getElem_inj nd).mp (by rw [(List.getElem?_eq_some_iff.mp hj').2, (List.getElem?_eq_some_iff.mp hj).2])
      subst ej
      exact ⟨x, hx, rfl⟩
    refine ⟨.ref h'.objs.size, H2, I3, rfl, q1 H2 h'.objs.size ts (fun b o q => g b o (by rw [upd_ne (ne_of_none q fS)]; exact q)) fS (g _ _ upd_same) ⟨hts, fun j c hj => ?_⟩⟩
    obtain ⟨vs, hv, q⟩ := trk c (List.mem_of_getElem? hj)
    obtain ⟨x, hx, rfl⟩ := hv j hj
    exact ⟨x, hx, q⟩
end LH

namespace LH
open PySem PySem.Spec PyProof.Rows L2
/-! ### d.update(another dict) -/
def rDUpd : V → List V → Hp → VK → Prop := fun x vs H Q => ∃ (a b : Addr) (kvs more : List (Key × V)), x = .ref a ∧ vs = [.ref b] ∧ a ≠ b ∧ H a = some (.dK kvs) ∧ H b = some (.dK more) ∧ kvs.length + more.length ≤ sizeLine ∧ Q .non (upd H a (.dK (mergeK kvs more)))
theorem mtd_update {X : Cx} : MtR X "dict.update" rDUpd := by
  intro pins s σ H x vs v us Q I rx rv h
  obtain ⟨a, b, kvs, more, rfl, rfl, ne, ea, eb, hl, q⟩ := h
  obtain rfl : v = Value.ref a := rx
  obtain ⟨u, rfl, ru⟩ := rv.one
  obtain rfl : u = Value.ref b := ru
  obtain ⟨z, hd, vs, rel, dd⟩ := dk_of I.hok ea
  obtain ⟨z2, hd2, vs2, rel2, dd2⟩ := dk_of I.hok eb
  refine call_meetsIn PySem.F.slot_dict_update dd.typeIs PySem.F.entry_dict_update (PySem.F.args_dict_update_2 _ _) (meets_dict_update (mixKind X.prog X.w) a b ne hd2) ⟨vs, vs2, dd, dd2, by rw [← rel.length, ← rel2.length]; exact hl, fun h' dd' _ hs => ?_⟩
  have he : ∃ q, h'.get? a = some q := let ⟨q, _, _, hq, _⟩ := dd'; ⟨q, hq⟩
  have I' := d_write (t' := s.toks) I (by rw [ea]; exact True.intro) hs he (dk_new (Nat.le_trans (length_mergeK _ _) hl) hd (KV.merge rel2 rel) dd')
  exact ⟨.non, _, I', rfl, q⟩
end LH

namespace LH
open PySem PySem.Spec PyProof.Rows L2 RT
/-! ### list[a:b:c]: some of the list's items -/
theorem vals_pick {xs : List V} {its : List Value} (r : Vals xs its) : ∀ idx : List Nat, Vals (idx.filterMap (xs[·]?)) (idx.filterMap (its[·]?))
  | [] => .nil
  | i :: idx => by
    have ih := vals_pick r idx
    have hl := r.length
    rw [List.filterMap_cons, List.filterMap_cons]
    cases e : xs[i]? with
    | none =>
      have : its[i]? = none := by
        rw [List.getElem?_eq_none_iff] at e ⊢
        omega
      rw [this]
      exact ih
    | some x =>
      obtain ⟨u, hu, ru⟩ := r.get e
      rw [hu]
      exact .cons ru ih
def tSl3 (K : PySem.W.Frag) (te : TE) (tl th ts : TO) : TE := fun σ H Q => te σ H fun x H1 => tl σ H1 fun l H2 => th σ H2 fun u H3 => ts σ H3 fun k H4 => ∃ (a : Addr) (xs : List V), x = .ref a ∧ k ≠ some 0 ∧ SqL K H4 a xs ∧ ∀ p ys, H4 p = none → (∀ y ∈ ys, y ∈ xs) → ys.length ≤ xs.length → Q (.ref p) (upd H4 p (.lst ys))
theorem pe_slice3L {X : Cx} (K : PySem.W.Frag) (hK : X.K = K) {e e1 e2 e3 : Expr} {te : TE} {tl th ts : TO} {p3 pos : Pos} (he : PE X e te) (hl : PO X (some e1) tl) (hu : PO X (some e2) th) (hs : PO X (some e3) ts) : PE X (.Subscript e (.Slice (some e1) (some e2) (some e3) p3) pos) (tSl3 K te tl th ts) := by
  subst hK
  refine ⟨fun pins s σ H Q I h => ?_⟩
  refine Subscript_ (thn (he.run pins s σ H _ I h) fun v s1 ⟨x, H1, I1, r1, q1⟩ => ?_)
  refine wpAny_Slice (thn (hl.run pins s1 σ H1 _ I1 q1) fun vl s2 ⟨l, H2, I2, pl, q2⟩ => ?_)
  refine thn (hu.run pins s2 σ H2 _ I2 q2) fun vu s3 ⟨u, H3, I3, pu, q3⟩ => ?_
  refine thn (hs.run pins s3 σ H3 _ I3 q3) fun vs s4 ⟨k, H4, I4, ps, q4⟩ => ?_
  obtain ⟨a, xs, ex, hk, hx, q⟩ := q4
  subst ex
  cases r1
  have I5 : Inv X pins σ H4 { s4 with heap := s4.heap.push { cls := .type "slice", data := .fields #[vl, vu, vs] } } := I4.kept (t' := s4.toks) fun b ob q => Heap.get?_push_of_some _ q
  obtain ⟨its, r, ht, hz⟩ := I5.list hx
  have hlen := r.length
  show wpAny (model X.prog X.w) X.A (subscriptTail e (.Slice (some e1) (some e2) (some e3) p3) (.ref a) (.ref s4.heap.objs.size)) (EP X pins σ Q) X.xe { s4 with heap := s4.heap.push { cls := .type "slice", data := .fields #[vl, vu, vs] } }
  refine tail_any (ops := [.ref a, .ref s4.heap.objs.size]) ht.isList.typeIs (PySem.slot_list_getitem.lookup) ?_ (by with_unfolding_all rfl)
  refine wpAny_getItem_list_slice ht.isList (Heap.IsSliceOf.new _ vl vu vs) pl pu ps hk ?_ (by rw [List.size_toArray]; omega)
  have le := slicePick_size_le its.toArray l u k
  have rp := vals_pick r (sliceRange (sliceBounds l u k its.toArray.size).1 (sliceBounds l u k its.toArray.size).2.1 (sliceBounds l u k its.toArray.size).2.2)
  have e0 : slicePick its.toArray l u k = ((sliceRange (sliceBounds l u k its.toArray.size).1 (sliceBounds l u k its.toArray.size).2.1 (sliceBounds l u k its.toArray.size).2.2).filterMap (its[·]?)).toArray := by
    unfold slicePick
    congr 2
    funext i
    simp
  rw [e0] at le ⊢
  generalize sliceRange (sliceBounds l u k its.toArray.size).1 (sliceBounds l u k its.toArray.size).2.1 (sliceBounds l u k its.toArray.size).2.2 = idx at le rp
  have l2 := rp.length
  rw [List.size_toArray, List.size_toArray] at le
  refine ⟨.ref _, _, I5.laid (t' := s4.toks) (o := .lst (idx.filterMap (xs[·]?))) (fun b ob q => Heap.get?_push_of_some _ q) (Nat.le_refl _) ?_, rfl, q _ _ (I5.hok.fresh (Nat.le_refl _)) (fun y hy => ?_) (by omega)⟩
  · exact ⟨by omega, _, 0, rp, Heap.get?_push_size _ rfl⟩
  · obtain ⟨i, _, hi⟩ := List.mem_filterMap.mp hy
    exact List.mem_of_getElem? hi
/-! ### list(reversed(list)) -/
theorem call_list_rev {prog : Program} {w : World} {A : Around} {E : Value → Shared → Prop} {s : Shared} {it l : Addr} {items : Array Value} {Q : Value → Shared → Prop} (hh : A.handled = none) (hit : s.heap.IsRevIter it l ((items.size : Int) - 1)) (hl : s.heap.IsList l items) (hne : l ≠ it) (hn : items.size ≤ sizeLine)
    (hQ : ∀ (h' : Heap) (tk : Nat) (acc : Array Value) (c : Nat), (∀ b o, b ≠ it → s.heap.get? b = some o → h'.get? b = some o) → h'.get? s.heap.objs.size = some { cls := .type "list", dict := none, data := .seq acc c, slots := #[] } → ItemsOf (fun i v => items[items.size - 1 - i]? = some v) acc items.size → Q (.ref s.heap.objs.size) { s with heap := h', toks := tk }) :
    wpAny (model prog w) A (call (.type "list") [.ref it]) Q E s := by
  have W := (Walks.listRev (prog := prog) (w := w) (A := A.in1.in1) hh it l hne items).toS
  obtain ⟨oi, hoi, _⟩ := id hit
  obtain ⟨ol, hol, _⟩ := id hl
  have hSi : s.heap.objs.size ≠ it := Nat.ne_of_gt (Heap.lt_size hoi)
  have hSl : s.heap.objs.size ≠ l := Nat.ne_of_gt (Heap.lt_size hol)
  have hSf : s.heap.objs.size ∉ [it, l] := by simp only [List.mem_cons, List.not_mem_nil, or_false, not_or]; exact ⟨hSi, hSl⟩
  refine callType_codes (Q₁ := fun obj s₁ => obj = .ref s.heap.objs.size ∧ s₁ = { s with heap := s.heap.push { cls := .type "list", data := .seq #[] } }) F.called_list (F.typeCall_list_1 _) F.entry_list_init
    (code_list_new _ ⟨rfl, rfl⟩) fun obj s₁ h₁ => ?_
  obtain ⟨rfl, rfl⟩ := h₁
  have hS : (s.heap.push { cls := .type "list", data := .seq #[] }).get? s.heap.objs.size = some { cls := .type "list", data := .seq #[] } := Heap.get?_push_size _ rfl
  refine ⟨⟨_, hS, rfl⟩, F.args_list_init_2 _ _, ?_⟩
  show wpAny _ A.in1.in1 (do let old ← Builtin.List.listItems (.ref s.heap.objs.size); Builtin.List.listUpdate (.ref s.heap.objs.size) (fun _ => #[]); letGo old.toList.reverse; Builtin.List.listExtendWith (.ref s.heap.objs.size) (.ref it) .none) _ _ _
  refine wpAny_bind ?_
  unfold Builtin.List.listItems
  refine wpAny_bind (wpAny_seqItems hS rfl (wpAny_pure ?_))
  show wpAny _ A.in1.in1 (updateSeq s.heap.objs.size (fun _ => #[]) >>= fun _ => letGo (#[] : Array Value).toList.reverse >>= fun _ => Builtin.List.listExtendWith (.ref s.heap.objs.size) (.ref it) .none) _ _ _
  refine wpAny_bind (wpAny_updateSeq hS rfl ?_)
  have hS2 := Heap.get?_update_self (Obj.mapSeq (fun _ => (#[] : Array Value))) hS rfl
  have up : ∀ b o, b ≠ s.heap.objs.size → (s.heap.push { cls := .type "list", data := .seq #[] }).get? b = some o → ((s.heap.push { cls := .type "list", data := .seq #[] }).update s.heap.objs.size (Obj.mapSeq (fun _ => (#[] : Array Value)))).get? b = some o := fun b o hb e => (Heap.get?_update_other _ _ (Ne.symm hb)).trans e
  refine wpAny_bind (wpAny_letGo ?_)
  have up0 : ∀ b o, s.heap.get? b = some o → ((s.heap.push { cls := .type "list", data := .seq #[] }).update s.heap.objs.size (Obj.mapSeq (fun _ => (#[] : Array Value)))).get? b = some o := fun b o e => up b o (Nat.ne_of_lt (Heap.lt_size e)) (Heap.get?_push_of_some _ e)
  generalize ((s.heap.push { cls := .type "list", data := .seq #[] }).update s.heap.objs.size (Obj.mapSeq (fun _ => (#[] : Array Value)))) = h2 at hS2 up0
  have hit1 : h2.IsRevIter it l ((items.size : Int) - 1) := hit.at fun o e => up0 _ _ e
  have hl1 : h2.IsList l items := hl.at fun o e => up0 _ _ e
  have hT : ({ s with heap := h2 } : Shared).TypeIs (.ref it) "list_reverseiterator" := Heap.IsRevIter.typeIs (s := { s with heap := h2 }) hit1
  have h1 : Builtin.List.listSameRef (.ref s.heap.objs.size) (.ref it) = false := by simp [Builtin.List.listSameRef, hSi]
  unfold Builtin.List.listExtendWith
  refine wpAny_bind (wpAny_typeOf hT ?_)
  rw [if_neg (by rw [h1]; decide)]
  refine wpAny_bind (wpAny_pyIter_revIter (s := { s with heap := h2 }) hit1 ?_)
  refine wpAny_bind (wpAny_holding ?_)
  unfold Builtin.List.listLengthHint
  refine wpAny_bind (wpAny_specialOf hT nolen_lri ?_)
  show wpAny _ A.in1.in1 (specialOf (Value.ref it) (Str.ofString "__length_hint__") >>= _) _ _ _
  refine wpAny_bind (wpAny_specialOf hT hint_lri ?_)
  generalize hid : ("list_reverseiterator.__length_hint__" : String) = id0
  wp_delta
  rw [show splitId id0 = some ("list_reverseiterator", "__length_hint__") from by subst hid; decide +kernel]
  subst hid
  refine wpAny_bind (wpAny_isInstance (b := true) hT (by rw [isSubtype_type]; kernel_rfl) ?_)
  refine wpAny_pure ?_
  rw [if_neg (by decide)]
  have e0 : ((items.size : Nat) : Int) - 1 - ((0 : Nat) : Int) = (items.size : Int) - 1 := by omega
  refine wpAny_pure ⟨plainId_quiet F.plain_extend_loop _, codeAny_extend_loopS W hn _ hSf _ items.size 0 _ _ _ rfl (Nat.zero_le _) ⟨Nat.zero_le _, by rw [e0]; exact hit1, hl1⟩ hS2 (ItemsOf.nil _) fun s' acc' c' hm hS' hacc => ?_⟩
  refine ⟨rfl, ?_⟩
  rw [Moved.eq_with hm]
  refine hQ s'.heap s'.toks acc' c' (fun b o hb e => hm.heap b o (fun hmem => ?_) (up0 _ _ e)) hS' hacc
  rcases List.mem_cons.mp hmem with e' | hmem
  · exact absurd (Heap.lt_size e) (by rw [e']; exact Nat.lt_irrefl _)
  · exact hb (List.mem_singleton.mp hmem)
def tListRev (K : PySem.W.Frag) (te : TE) : TE := fun σ H Q => te σ H fun v H1 => ∃ (a : Addr) (xs : List V), v = .ref a ∧ SqL K H1 a xs ∧ ∀ q, H1 q = none → Q (.ref q) (upd H1 q (.lst xs.reverse))
theorem pe_listRev {X : Cx} (K : PySem.W.Frag) (hK : X.K = K) {e : Expr} {te : TE} {p p2 pos pos2 : Pos} (hc : X.calm = true) (hg : Gl X "list") (hm : X.mg "list" = none) (hg2 : Gl X "reversed") (hm2 : X.mg "reversed" = none) (he : PE X e te)
    (hs : starEach [e] X.env = (false, eval e X.env) :: starEach [] X.env := by rfl)
    (hs2 : starEach [.Call (.Name "reversed" p2) [e] [] pos2] X.env = (false, eval (.Call (.Name "reversed" p2) [e] [] pos2) X.env) :: starEach [] X.env := by rfl) :
    PE X (.Call (.Name "list" p) [.Call (.Name "reversed" p2) [e] [] pos2] [] pos) (tListRev K te) := by
  subst hK
  refine ⟨fun pins s σ H Q I h => ?_⟩
  refine Call_ (ld_blt I hg hm boot_list (PyProof.Rows.callWith_type1 (args_cons (Call_ (ld_blt I hg2 hm2 PyProof.Rows.boot_reversed (PyProof.Rows.callWith_type1 (args_cons (thn (he.run pins s σ H _ I h) fun u s1 ⟨v, H1, I1, r1, q1⟩ => args_nil ?_) hs) hs rfl))) hs2) hs2 rfl))
  obtain ⟨a, xs, ev, hq, q⟩ := q1
  subst ev
  obtain rfl : u = Value.ref a := r1
  obtain ⟨its, rv, p', hz⟩ := I1.list hq
  refine call_reversed_list p'.isList (args_nil ?_)
  have k0 : ∀ b o, s1.heap.get? b = some o → (s1.heap.push (revObj a ((its.toArray.size : Int) - 1))).get? b = some o := fun b o e => Heap.get?_push_of_some _ e
  have I2 : Inv X pins σ H1 { s1 with heap := s1.heap.push (revObj a ((its.toArray.size : Int) - 1)) } := I1.kept (t' := s1.toks) k0
  have hl := p'.isList
  obtain ⟨ol, hol, _⟩ := id hl
  have la : @LT.lt Nat _ a s1.heap.objs.size := Heap.lt_size hol
  have hne : a ≠ s1.heap.objs.size := Nat.ne_of_lt la
  have hn : its.toArray.size ≤ sizeLine := by rw [List.size_toArray, ← rv.length]; exact hz
  have hz2 : (s1.heap.push (revObj a ((its.toArray.size : Int) - 1))).objs.size = s1.heap.objs.size + 1 := Heap.size_push ..
  refine call_list_rev (s := { s1 with heap := s1.heap.push (revObj a ((its.toArray.size : Int) - 1)) }) (I1.ok.hd hc) ⟨_, Heap.get?_push_size _ rfl, rfl, rfl⟩ (hl.push _) hne hn fun h' tk acc c hk hS hi => ?_
  have up : ∀ b o, s1.heap.get? b = some o → h'.get? b = some o := fun b o e => hk b o (Nat.ne_of_lt (Heap.lt_size e)) (k0 b o e)
  have fS : @LE.le Nat _ s1.heap.objs.size (s1.heap.push (revObj a ((its.toArray.size : Int) - 1))).objs.size := by omega
  exact ⟨.ref _, upd H1 _ (.lst xs.reverse), I1.laid (t' := tk) (o := .lst xs.reverse) up fS (show ObjOk X.prog X.w _ _ _ (.lst xs.reverse) from ⟨by rw [List.length_reverse]; exact hz, acc.toList, c, vals_rev rv hi, by rw [Array.toArray_toList]; exact hS⟩), rfl, q _ (I1.hok.fresh fS)⟩
end LH

namespace LH
open PySem PySem.Spec PyProof.Rows L2
/-! ### text * number, also none -/
theorem op_repZ {X : Cx} : OpR X (binaryOp .Mult) (fun x y H Q => ∃ (z : Str) (n : Int), x = .str z ∧ y = .int n ∧ 0 ≤ n ∧ n ≤ 1000 ∧ z.length ≤ 1000 ∧ Q (.str (repS z n.toNat)) H) := by
  intro pins s σ H x y v u Q I rx ry h
  obtain ⟨z, n, rfl, rfl, h1, h2, hz, q⟩ := h
  by_cases h0 : 1 ≤ n
  · exact op_repS pins s σ H _ _ v u Q I rx ry ⟨z, n, rfl, rfl, h0, h2, hz, q⟩
  · obtain rfl : n = 0 := by omega
    obtain ⟨t, rfl⟩ := rx
    obtain ⟨t', rfl⟩ := ry
    refine PySem.P.mul_str ?_ (fun h _ => absurd h (by decide)) (fun h _ => absurd h (by decide)) ?_
    · rfl
    · rw [if_pos (by decide)]
      exact ⟨by decide, .str _, H, I.tok _, ⟨_, rfl⟩, q⟩
end LH

namespace LH
open PySem PySem.Spec PyProof.Rows L2
/-! ### for sign, thing in zip(text, list) -/
def ItZL (K : PySem.W.Frag) (z : Str) (a : Addr) : It :=
  ⟨fun i H => ∃ (xs : List V) (x : V) (c : Nat), SqL K H a xs ∧ xs[i]? = some x ∧ z.cps[i]? = some c,
    fun i H v H' => ∃ T x c, v = .ref T ∧ H T = none ∧ H' = upd H T (.tup [.str ⟨#[c]⟩, x]) ∧ z.cps[i]? = some c ∧ ∀ xs, SqL K H a xs → xs[i]? = some x,
    fun i H => ∃ xs : List V, SqL K H a xs ∧ i = min z.cps.size xs.length⟩
theorem walk_ZL {K : PySem.W.Frag} {z : Str} {a : Addr} {xs : List V} {n : Nat} (h1 : z.cps.size = n) (h2 : xs.length = n) : Walk (ItZL K z a) n (fun H => SqL K H a xs) (YPair (fun i => (z.cps[i]?).map fun c => .str ⟨#[c]⟩) (fun i => xs[i]?)) :=
  ⟨fun i _ hi q => ⟨xs, xs[i], z.cps[i], q, List.getElem?_eq_getElem (by omega), Array.getElem?_eq_getElem (by omega)⟩, fun _ q => ⟨xs, q, by omega⟩, fun i _ _ _ _ q ⟨T, x, c, a1, a2, a3, a4, a5⟩ => ⟨T, .str ⟨#[c]⟩, x, a1, a2, a3, by show Option.map _ (z.cps[i]?) = _; rw [a4]; rfl, a5 xs q⟩⟩
theorem turn_ZL {P : Program} {w : World} {K : PySem.W.Frag} {elts : List Expr} {kk : Nat} {tpos : Pos} (z : Str) (t0 : Tok) (a zz TI TO i1 i2 : Addr) (S : ZipSep2 zz TI TO i1 i2 [i1] [i2, a]) (hai : a ≠ i2) :
    Turn P w K (.Tuple elts kk tpos) (ItZL K z a) [zz, TI, TO, i1, i2] zz (fun i h => IsZip h zz TI TO .none ∧ IsTupOf2 h TI (.ref i1) (.ref i2) ∧ (∃ a1 a2, IsTupOf2 h TO a1 a2) ∧ h.IsStrIter i1 (strIterType z) z t0 i ∧ h.IsListIter i2 a i) where
  mem := List.mem_cons_self
  obj := fun i h st b hb => by
    obtain ⟨h1, h2, ⟨x1, x2, h3⟩, ⟨o4, h4, _, d4⟩, ⟨o5, h5, _, d5⟩⟩ := st
    have e : b = zz ∨ b = TI ∨ b = TO ∨ b = i1 ∨ b = i2 := by simpa using hb
    rcases e with y | y | y | y | y
    · rw [y]
      exact ⟨_, h1, fun v q => nomatch q⟩
    · rw [y]
      exact ⟨_, h2, fun v q => nomatch q⟩
    · rw [y]
      exact ⟨_, h3, fun v q => nomatch q⟩
    · rw [y]
      exact ⟨o4, h4, fun v q => by rw [d4] at q; cases q⟩
    · rw [y]
      exact ⟨o5, h5, fun v q => by rw [d5] at q; cases q⟩
  keep := fun i h h' st k => by
    obtain ⟨h1, h2, ⟨x1, x2, h3⟩, h4, h5⟩ := st
    exact ⟨k zz (by simp) _ h1, k TI (by simp) _ h2, ⟨x1, x2, k TO (by simp) _ h3⟩, (let ⟨o, e, r⟩ := h4; ⟨o, k i1 (by simp) _ e, r⟩), (let ⟨o, e, r⟩ := h5; ⟨o, k i2 (by simp) _ e, r⟩)⟩
  item := by
    intro X hP hw hK hc i pins s σ H E I hf st hg
    subst hP hw hK
    obtain ⟨xs, x, c, sq, hx, hcz⟩ := hg
    obtain ⟨its, rv, pt, _⟩ := I.list sq
    have D := WalksT.zipD2 (prog := X.prog) (w := X.w) (A := X.A) S (Draws.text (A := X.A.in1) (I.ok.hd hc) i1 z t0) (Draws.list (A := X.A.in1) (I.ok.hd hc) i2 a hai its.toArray)
    obtain ⟨u, hu, ru⟩ := rv.get hx
    have lt : i < min z.cps.size its.toArray.size := by
      have q2 := (List.getElem?_eq_some_iff.mp hu).1
      exact Nat.lt_min.mpr ⟨(Array.getElem?_eq_some_iff.mp hcz).1, q2⟩
    obtain ⟨k1, k2, k3, k4, k5⟩ := st
    refine D.item i s _ _ lt ⟨k1, k2, k3, k4, k5, pt.isList⟩ fun T vals h1 tk hv hT tup mid m1 => ?_
    obtain ⟨v1, v2, ⟨c', tt, hc', rfl⟩, hy, rfl⟩ := hv
    obtain rfl : c' = c := Option.some.inj (hc'.symm.trans hcz)
    obtain rfl : v2 = u := by
      have : its[i]? = some v2 := by simpa using hy
      exact Option.some.inj (this.symm.trans hu)
    refine ⟨_, rfl, D.go elts kk tpos i T _ _ _ mid fun h2 st2 m2 => ?_⟩
    have tup2 : h2.IsTuple T #[.str ⟨#[c']⟩ tt, v2] := tup.at fun o q => m2 T o (D.apart i T h1 mid) q
    have wr : ∀ b, b ∉ [zz, TI, TO, i1, i2] → b ∉ [zz, TO, i1, i2] := fun b hb z => hb (by
      simp only [List.mem_cons, List.not_mem_nil, or_false] at z ⊢
      rcases z with z | z | z | z
      · exact .inl z
      · exact .inr (.inr (.inl z))
      · exact .inr (.inr (.inr (.inl z)))
      · exact .inr (.inr (.inr (.inr z))))
    have I1 : Inv X pins σ (upd H T (.tup [.str ⟨#[c']⟩, x])) { s with heap := h2, toks := tk } :=
      I.turnedNew (ch := [zz, TI, TO, i1, i2]) (fun b o hb q => m2 b o (wr b hb) (m1 b o (wr b hb) q)) hf hT ⟨by show 2 ≤ sizeLine; decide, [.str ⟨#[c']⟩ tt, v2], .cons ⟨_, rfl⟩ (.cons ru .nil), tup2⟩
    obtain ⟨n1, n2, n3, n4, n5, _⟩ := st2
    refine ⟨.ref T, _, I1, rfl, ⟨T, x, c', rfl, I.hok.fresh hT, rfl, hcz, fun ys hy => by rw [I.list_inj hy sq]; exact hx⟩, ⟨n1, n2, n3, n4, n5⟩, fun b hb => ?_⟩
    have lb : b < s.heap.objs.size := by
      obtain ⟨x1, x2, k3⟩ := k3
      obtain ⟨o4, h4, _⟩ := k4
      obtain ⟨o5, h5, _⟩ := k5
      have e : b = zz ∨ b = TI ∨ b = TO ∨ b = i1 ∨ b = i2 := by simpa using hb
      rcases e with y | y | y | y | y
      · rw [y]; exact Heap.lt_size k1
      · rw [y]; exact Heap.lt_size k2
      · rw [y]; exact Heap.lt_size k3
      · rw [y]; exact Heap.lt_size h4
      · rw [y]; exact Heap.lt_size h5
    rw [upd_ne (Nat.ne_of_lt (Nat.lt_of_lt_of_le lb hT))]
    exact (hf b hb).1
  done := by
    intro X hP hw hK hc i pins s σ H E I hf st hg
    subst hP hw hK
    obtain ⟨xs, sq, hx⟩ := hg
    obtain ⟨its, rv, pt, _⟩ := I.list sq
    have D := WalksT.zipD2 (prog := X.prog) (w := X.w) (A := X.A) S (Draws.text (A := X.A.in1) (I.ok.hd hc) i1 z t0) (Draws.list (A := X.A.in1) (I.ok.hd hc) i2 a hai its.toArray)
    have en : min z.cps.size its.toArray.size = i := by
      rw [hx, rv.length]
      rfl
    rw [← en] at st
    obtain ⟨k1, k2, k3, k4, k5⟩ := st
    refine D.done s _ _ ⟨k1, k2, k3, k4, k5, pt.isList⟩ fun h1 tk m1 => ⟨rfl, I.turnedL (ch := [zz, TI, TO, i1, i2]) (fun b o hb q => m1 b o (fun z => hb ?_) q) hf⟩
    simp only [List.mem_cons, List.not_mem_nil, or_false] at z ⊢
    rcases z with z | z | z | z
    · exact .inl z
    · exact .inr (.inr (.inl z))
    · exact .inr (.inr (.inr (.inl z)))
    · exact .inr (.inr (.inr (.inr z)))
  self := fun A i s Q E st hQ => wpAny_pyIter_zip st.1 hQ
theorem ne_aL {a b : Nat} (h : a < b ∨ b < a) : (a : Addr) ≠ (b : Addr) := fun e => by
  have e : a = b := e
  omega
theorem nin1L {x y : Addr} (h : x ≠ y) : x ∉ [y] := fun z => h (List.mem_singleton.mp z)
theorem nin2L {x y a : Addr} (h : x ≠ y) (k : x ≠ a) : x ∉ [y, a] := fun z => (List.mem_cons.mp z).elim h fun z => k (List.mem_singleton.mp z)
theorem sep_natL (N a : Nat) (h : a < N) : ZipSep2 (N + 4) (N + 2) (N + 3) N (N + 1) [N] [N + 1, a] :=
  ⟨ne_aL (by omega), ne_aL (by omega), ne_aL (by omega), ne_aL (by omega), List.mem_cons_self, nin1L (ne_aL (by omega)), nin1L (ne_aL (by omega)), ne_aL (by omega), List.mem_cons_self, nin2L (ne_aL (by omega)) (ne_aL (by omega)), nin2L (ne_aL (by omega)) (ne_aL (by omega)), nin2L (ne_aL (by omega)) (ne_aL (by omega)), nin1L (ne_aL (by omega))⟩
theorem le_natL (N b : Nat) (h : (b : Addr) ∈ ([N + 4, N + 2, N + 3, N, N + 1] : List Addr)) : N ≤ b := by
  have e : b = N + 4 ∨ b = N + 2 ∨ b = N + 3 ∨ b = N ∨ b = N + 1 := by
    rcases List.mem_cons.mp h with z | h
    · exact .inl z
    rcases List.mem_cons.mp h with z | h
    · exact .inr (.inl z)
    rcases List.mem_cons.mp h with z | h
    · exact .inr (.inr (.inl z))
    rcases List.mem_cons.mp h with z | h
    · exact .inr (.inr (.inr (.inl z)))
    · exact .inr (.inr (.inr (.inr (List.mem_singleton.mp h))))
  omega
theorem ne_natL (N a : Nat) (h : a < N) : (a : Addr) ≠ N + 1 := ne_aL (by omega)
def iZipZL (K : PySem.W.Frag) (ta : TA) : TI := fun σ H R => ta σ H fun vs H1 => ∃ (z : Str) (a : Addr) (xs : List V), vs = [.str z, .ref a] ∧ SqL K H1 a xs ∧ R (ItZL K z a) H1
theorem pi_zipZL {X : Cx} (K : PySem.W.Frag) (hK : X.K = K) {e e2 : Expr} {ta : TA} {p pos tpos : Pos} {elts : List Expr} {kk : Nat} (hg : Gl X "zip") (hm : X.mg "zip" = none) (ha : PA X [e, e2] ta)
    (hs : starEach [e, e2] X.env = (false, eval e X.env) :: starEach [e2] X.env := by rfl) (hpl : (backTo pos (starEach [e2] X.env)).any (·.1) = false := by rfl) : PI X (.Tuple elts kk tpos) (.Call (.Name "zip" p) [e, e2] [] pos) (iZipZL K ta) := by
  subst hK
  refine ⟨fun pins s σ H R I h => ?_⟩
  refine Call_ (ld_blt I hg hm PyProof.Rows.boot_zip (PyProof.Rows.callWith_type1 (thn (ha.run pos pins s σ H _ I h) fun ws s2 ⟨vs, H2, I2, r2, q2⟩ => ?_) hs hpl))
  obtain ⟨z, a, xs, ex, sq, q⟩ := q2
  subst ex
  obtain ⟨u1, u2, rfl, ⟨t, rfl⟩, ra⟩ := r2.two
  obtain rfl : u2 = Value.ref a := ra
  obtain ⟨its, rv, pt, _⟩ := I2.list sq
  have la : a < s2.heap.objs.size := by
    have ⟨o, ho, _⟩ := pt.isList
    exact Heap.lt_size ho
  refine zip_begins2 (begins_text z t) (begins_list a its.toArray) trivial pt.isList fun h' hz hTI hTO h1 h2 _ hk => wpAny_pyIter_zip hz ?_
  have I3 : Inv X pins σ H2 { s2 with heap := h' } := I2.kept (t' := s2.toks) hk
  refine ⟨s2.heap.objs.size + 4, [s2.heap.objs.size + 4, s2.heap.objs.size + 2, s2.heap.objs.size + 3, s2.heap.objs.size, s2.heap.objs.size + 1], _, _, H2, rfl, I3, turn_ZL z t a _ _ _ _ _ (sep_natL s2.heap.objs.size a la) (ne_natL s2.heap.objs.size a la), ⟨hz, hTI, ⟨_, _, hTO⟩, ⟨_, h1, rfl, rfl⟩, ⟨_, h2, rfl, rfl⟩⟩, fun b hb => ?_, q⟩
  have le := le_natL s2.heap.objs.size b hb
  exact I2.fpOk le (I2.hok.fresh le)
end LH

namespace LH
open PySem PySem.Spec PyProof.Rows L2 NdefX LamX
open GxR (GenS trF trF_some any_trF keeps_refl sh_eta inv_tab)
abbrev viN (ns : List Nat) : List V := ns.map fun (n : Nat) => V.int (n : Int)
/-! ### any(.. for number in list of numbers) -/
def freeB (sc scope : Scope) : Bool := scope.names.all fun y => !decide (y.2 = .free) || decide (sc.names.lookup y.1 = some .cell)
theorem free_of {sc scope : Scope} (h : freeB sc scope = true) : ∀ y ∈ scope.names, y.2 = .free → sc.names.lookup y.1 = some .cell ∨ sc.names.lookup y.1 = some .free := fun y hy e => by
  have := List.all_eq_true.mp h y hy
  rw [decide_eq_true e] at this
  exact .inl (of_decide_eq_true this)
structure GenK (sc scope : Scope) (x : Str) : Prop where
  kind : scope.kind = .function
  co : scope.isCoroutine = false
  cell : ∀ y ∈ scope.names, y.2 ≠ .cell
  dot : scope.names.lookup (".0" : Str) = some NameKind.local
  loc : scope.names.lookup x = some .local
  free : freeB sc scope = true
/-- the element: a test of the number i; Rd: what is asked of the heap -/
def EltN (X : Cx) (P : Addr) (scope : Scope) (x : Str) (elt : Expr) (Rd : L2.St → Hp → List Nat → (Nat → Bool) → Prop) : Prop :=
  ∀ (pins : List (Addr × Obj)) (σ : L2.St) (H1 : Hp) (s1 : Shared) (hd : List Nat) (pb : Nat → Bool), Inv X pins σ H1 s1 → (∃ ps, s1.heap.get? P = some { cls := .none, data := .fields ps }) → Rd σ H1 hd pb →
  ∀ (A' : Around) (E' : Value → Shared → Prop) (i : Nat) (t : Tok) (s₂ : Shared) (m₂ : Str → Option Value) (C : Addr) (code : Value), i ∈ hd → s₂.heap.Ns C m₂ → m₂ x = some (.int (i : Int) t) → (∀ b o, b ≠ P → s1.heap.get? b = some o → s₂.heap.get? b = some o) →
    wpAny (model X.prog X.w) A' (eval elt (genEnv scope (cloFrom X.env.cells scope.names []) C code builtinsNs X.env)) (fun y s₃ => y = .bool (pb i) ∧ Keeps s₂ s₃) E' s₂
/-- the generator g over the numbers, ready to be walked -/
def ReadyN (T : List NTab) (X : Cx) (pins : List (Addr × Obj)) (σ : L2.St) (H1 : Hp) (hd : List Nat) (pb : Nat → Bool) (g : Addr) (s5 : Shared) : Prop :=
  ∃ (fp wr : List Addr) (G : Array GenState → Array GenState → Prop) (F : Nat → Value → Prop) (St : Nat → Shared → Prop),
    WalksS X.prog X.w X.A.in1 g fp wr G hd.length F St ∧ St 0 s5 ∧
    TruthOf X.prog X.w X.A.in1 F (trF pb hd) ∧
    ∀ s', Moved wr G s5 s' → ∃ H2, ExtN H1 H2 ∧ TabsN T H2 ∧ Inv X pins σ H2 s'
section
variable {X : Cx} {pins : List (Addr × Obj)} {σ : L2.St} {H : Hp} {s : Shared}
/-- the table at P has grown, the code object at c is new; generators may have been made -/
theorem inv_code {P c : Addr} {q : Str} {ps more : Array Value} {h' : Heap} {g' : Array GenState} {d' : Drawn} {t' : Nat} (I : Inv X pins σ H s) (hP : H P = some (.tbl ps)) (k : ∀ b o, b ≠ P → s.heap.get? b = some o → h'.get? b = some o)
    (hm : h'.get? P = some { cls := .none, data := .fields (ps ++ more) }) (hc : s.heap.objs.size ≤ c) (ho : ∃ (oc : Obj) (vs : Array Value) (t : Tok), h'.get? c = some oc ∧ oc.data = .fields vs ∧ vs[1]? = some (.str q t)) (hg : AllBare g') :
    Inv X pins σ (upd (upd H P (.tbl (ps ++ more))) c (CodeO c q)) { s with heap := h', gens := g', drawn := d', toks := t' } := by
  have nC : H c = none := I.hok.fresh hc
  have kP : ∀ u, H P = some u → ∃ qs, u = .tbl qs := fun u e => ⟨ps, (Option.some.inj (hP.symm.trans e)).symm⟩
  have off : ∀ b u, H b = some u → (∀ qs, u ≠ .tbl qs) → b ≠ P := fun b u e n z => by
    obtain ⟨qs, rfl⟩ := kP u (z ▸ e)
    exact n qs rfl
  have offN : ∀ b, H b = none → b ≠ P := fun b e z => by rw [z, hP] at e; cases e
  have neC : ∀ b u, H b = some u → b ≠ c := fun b u e => ne_of_none e nC
  have same_ : ∀ b, b ≠ P → b ≠ c → upd (upd H P (.tbl (ps ++ more))) c (CodeO c q) b = H b := fun b h1 h2 => (upd_ne h2).trans (upd_ne h1)
  have oldC : ∀ b o, s.heap.get? b = some o → b ≠ c := fun b o e => Nat.ne_of_lt (Nat.lt_of_lt_of_le (Heap.lt_size e) hc)
  have tb : upd (upd H P (.tbl (ps ++ more))) c (CodeO c q) P = some (.tbl (ps ++ more)) := (upd_ne (neC P _ hP)).trans upd_same
  refine I.step (g' := g') (d' := d') (ch := []) (fun b hb => (nomatch hb)) (fun b o _ _ _ e n => k b o (offN b n) e) (fun b o _ _ _ e n => ⟨o.slots, k b o (offN b n) e⟩)
    (fun b o _ e n => (same_ b (offN b n) (oldC b o e)).trans n) (fun b o _ e => ?_) (fun b xs e => (same_ b (off b _ e fun _ z => by cases z) (neC b _ e)).trans e) (fun b o u e => (same_ b (off b _ e fun _ z => by cases z) (neC b _ e)).trans e) (fun b qs e => ?_) (fun m hn => ?_) (fun b u e => ?_) hg
  · by_cases hb : b = P
    · exact ⟨_, hb ▸ hm⟩
    · exact ⟨o, k b o hb e⟩
  · by_cases hb : b = P
    · subst hb
      obtain rfl : ps = qs := HO.tbl.inj (Option.some.inj (hP.symm.trans e))
      exact ⟨more, tb⟩
    · exact ⟨#[], by rw [same_ b hb (neC b _ e), e]; simp⟩
  · obtain ⟨ob, es, ep, h1, r⟩ := hn
    exact ⟨ob, es, ep, k _ ob (offN _ I.free) h1, r⟩
  · by_cases hb : b = c
    · subst hb
      rw [upd_same] at e
      obtain rfl : CodeO b q = u := Option.some.inj e
      obtain ⟨oc, vs, t, e1, e2, e3⟩ := ho
      exact ⟨⟨oc, vs, t, e1, e2, e3⟩, ⟨oc, e1⟩, fun _ _ ⟨oc, vs, t, a, b, c⟩ st => ⟨oc, vs, t, st _ a, b, c⟩⟩
    · by_cases hp : b = P
      · subst hp
        rw [tb] at e
        obtain rfl := Option.some.inj e
        exact hm
      · rw [same_ b hp hb] at e
        refine (I.hok b u e).stay (fun d v hd q' => k d v ?_ q') (fun d q' => (same_ d (off d _ q' fun _ z => by cases z) (neC d _ q')).trans q') fun d xs q' => (same_ d (off d _ q' fun _ z => by cases z) (neC d _ q')).trans q'
        rcases hd with z | z
        · exact fun y => hp (z ▸ y)
        · exact off d _ z fun _ y => by cases y
theorem vals_intsN : ∀ {ns : List Nat} {us : List Value}, Vals (viN ns) us → ∀ (i : Nat) (v : Value), us[i]? = some v → ∃ n t, ns[i]? = some n ∧ v = Value.int (n : Int) t
  | [], _, .nil, i, v, e => by simp at e
  | n :: ns, _, .cons h t, i, v, e => by
    cases i with
    | zero =>
      cases e
      obtain ⟨t, rfl⟩ := h
      exact ⟨n, t, rfl, rfl⟩
    | succ i => exact vals_intsN t i v (by simpa using e)
theorem gen_list {T : List NTab} {nm : Nat → Nat → Str} {c P : Addr} {elt iter : Expr} {x : Str} {px gpos : Pos} {scope : Scope} {Rd : L2.St → Hp → List Nat → (Nat → Bool) → Prop} {te : TE} {k : Nat} {Q' : Value → Shared → Prop} {R : List Nat → (Nat → Bool) → Hp → Prop}
    (hr : Room k X.A) (TB : TabB X.base X.mg c P) (hm : (P, nm) ∈ T) (hn : nm gpos.line gpos.col = X.env.qual ++ "<genexpr>") (hu : ∀ p ∈ T, p.1 = P → p.2 = nm) (hcode : X.env.code = .ref c) (S0 : GenK X.env.scope scope x) (hi : PE X iter te) (hel : EltN X P scope x elt Rd)
    (hs : ∀ v, genFold iter X.env v = pure v) (I : Inv X pins σ H s) (h : te σ H fun v H1 => ∃ (q : Addr) (hd : List Nat) (pb : Nat → Bool), v = .ref q ∧ H1 q = some (.lst (viN hd)) ∧ TabsN T H1 ∧ Rd σ H1 hd pb ∧ R hd pb H1)
    (hQ : ∀ hd pb H1 g s5, R hd pb H1 → ReadyN T X pins σ H1 hd pb g s5 → Q' (.ref g) s5) :
    wpAny (model X.prog X.w) X.A (eval (.GeneratorExp elt [⟨.Name x px, iter, [], 0⟩] scope gpos) X.env) Q' X.xe s := by
  have S : GenS X.env scope x := ⟨S0.kind, S0.co, S0.cell, S0.dot, S0.loc, fun y hy e => I.ok.has _ (free_of S0.free y hy e)⟩
  refine wpAny_GeneratorExp_walksQ hr.hd S.co (closure_ok S.free) S.cell S.dot S.loc S.kind (by have := hr.dp; omega) ?_ hs
  refine thn (hi.run pins s σ H _ I h) fun xv s1 ⟨v, H1, I1, r1, q1⟩ => ?_
  obtain ⟨q, hd, pb, rfl, hq, tabs, rd, q1⟩ := q1
  obtain ⟨ps, hP, ht, ha⟩ := (show TabN H1 P nm from tabs _ hm)
  obtain rfl : xv = Value.ref q := r1
  obtain ⟨its, rv, hl, hz⟩ := I1.list (.inl (.inl hq) : SqL X.K H1 q (viN hd))
  have hlen : hd.length = its.toArray.size := by
    have := rv.length
    rw [List.length_map] at this
    rw [List.size_toArray]
    exact this
  refine wpAny_pyIter_list hl.isList ?_
  have hPs : s1.heap.get? P = some { cls := .none, data := .fields ps } := I1.hok P _ hP
  have hPlt : P < s1.heap.objs.size := Heap.lt_size hPs
  generalize ho : ({ cls := .type "list_iterator", data := .fields #[.ref q, .int 0 0] } : Obj) = o
  have hP2 : (s1.heap.push o).get? P = some { cls := .none, data := .fields ps } := Heap.get?_push_of_some _ hPs
  have cd : PySem.W.CodeHd (s1.heap.push o) c P := TB.code.keeps fun b u e => Heap.get?_push_of_some _ (I1.bk b u e)
  have lim2 : (s1.heap.push o).NoLimit := I1.nolimit.push o
  obtain ⟨ol, hol, hcl, _, hdl⟩ := hl.isList
  have hqlt : q < s1.heap.objs.size := Heap.lt_size hol
  have hqP : q ≠ P := fun z => by
    rw [z, hPs] at hol
    cases hol
    cases hcl
  have cont : ∀ (code : Value) (h3 : Heap) (tk : Nat), Heap.ExtBut P (s1.heap.push o) h3 → (s1.heap.push o).objs.size ≤ h3.objs.size →
      (∀ (h' : Heap) (g' : Array GenState) (d' : Drawn) (t' : Nat), AllBare g' → (∀ b u, b ≠ s1.heap.objs.size → b < h3.objs.size → h3.get? b = some u → h'.get? b = some u) → ∃ H2, ExtN H1 H2 ∧ TabsN T H2 ∧ Inv X pins σ H2 { s1 with heap := h', gens := g', drawn := d', toks := t' }) →
      wpAny (model X.prog X.w) X.A (builtinsFor X.env.globals X.env.builtins) (fun bi s₄ =>
        ∃ Ia fp wr n₀ Pf St₀ pz F, Value.ref s1.heap.objs.size = .ref Ia ∧ (∀ A' : Around, A'.handled = none → Walks X.prog X.w A' Ia fp wr n₀ Pf St₀) ∧ St₀ 0 s₄.heap ∧ (∀ b ∈ fp, b < s₄.heap.objs.size) ∧ s₄.heap.NoLimit ∧ cStatics ∉ wr ∧
          (∀ href : Heap, (∀ b o, s₄.heap.get? b = some o → href.get? b = some o) →
            QuietGen X.prog X.w (genEnv scope (cloFrom X.env.cells scope.names []) s₄.heap.objs.size code bi X.env) x [] elt (List.range s₄.heap.objs.size) wr Pf pz F href) ∧
          (∀ a h₅ tk gs, gs.bare = true → s₄.heap.objs.size < a → h₅.objs.size = a + 1 → (∀ b o, s₄.heap.get? b = some o → h₅.get? b = some o) →
            WalksS X.prog X.w X.A.in4 a (a :: s₄.heap.objs.size :: List.range s₄.heap.objs.size) (s₄.heap.objs.size :: wr) (GenOnlyQ s₄.gens.size) (passing pz n₀ 0).length
              (fun j y => ∃ i, (passing pz n₀ 0)[j]? = some i ∧ F i y) (GenAt X.prog X.w X.A.in4 a s₄.gens.size s₄.heap.objs.size (List.range s₄.heap.objs.size) wr pz n₀ F) →
            GenAt X.prog X.w X.A.in4 a s₄.gens.size s₄.heap.objs.size (List.range s₄.heap.objs.size) wr pz n₀ F 0 { s₄ with gens := s₄.gens.push gs, toks := tk, heap := h₅ } →
            Q' (.ref a) { s₄ with gens := s₄.gens.push gs, toks := tk, heap := h₅ })) X.xe { s1 with heap := h3, toks := tk } := by
    intro code h3 tk hx hsz hfin
    obtain ⟨bm, ob, e1, e2, e3, e4, e5, e6, e7, e8⟩ := TB.bm
    have hcP : cStatics ≠ P := fun e => by
      obtain ⟨_, hns, _⟩ := I1.nolimit
      obtain ⟨o', es, ep, ho, hd, _⟩ := hns
      rw [e, hPs] at ho
      cases ho
      cases hd
    have hcl : cStatics < s1.heap.objs.size := let ⟨_, hns, _⟩ := I1.nolimit; hns.lt
    have sz2 : (s1.heap.push o).objs.size = s1.heap.objs.size + 1 := Heap.size_push ..
    have keep3 : ∀ b u, b ≠ P → s1.heap.get? b = some u → h3.get? b = some u := fun b u hb e => hx b u hb (Heap.get?_push_of_some _ e)
    refine wpAny_builtinsFor (m := X.mg) (by rw [I1.ok.glob]; exact ((I1.mod.glob.keeps I1.bk).push o).extBut hx TB.gP) e1 e2 (keep3 _ _ e4 (I1.bk _ _ e5)) e6 e7 e8 ?_
    have hnew : (s1.heap.push o).get? s1.heap.objs.size = some o := Heap.get?_push_size _ (by subst ho; rfl)
    have itP : s1.heap.objs.size ≠ P := Nat.ne_of_gt hPlt
    refine ⟨s1.heap.objs.size, [s1.heap.objs.size, q], [s1.heap.objs.size], its.toArray.size, (fun i v => its.toArray[i]? = some v), (fun i h => h.IsListIter s1.heap.objs.size q i ∧ h.IsList q its.toArray), (fun _ => true), (fun i y => ∃ n : Nat, hd[i]? = some n ∧ y = .bool (pb n)), rfl, (fun A' hA => Walks.list hA _ q (Nat.ne_of_lt hqlt) _), ?_, ?_, lim2.extBut hx hcP, ?_, ?_, ?_⟩
    · refine ⟨?_, hl.isList.at fun o e => keep3 q o hqP e⟩
      exact ⟨o, hx _ _ itP hnew, by subst ho; rfl, by subst ho; rfl⟩
    · intro b hb
      rcases List.mem_cons.mp hb with z | z
      · rw [z]
        show s1.heap.objs.size < h3.objs.size
        omega
      · rw [List.mem_singleton.mp z]
        exact Nat.lt_of_lt_of_le hqlt (show s1.heap.objs.size ≤ h3.objs.size by omega)
    · intro z
      rcases List.mem_cons.mp z with z | z
      · exact Nat.ne_of_lt hcl z
      · cases z
    · intro href hhref
      refine ⟨fun A' E' i v s₂ m₂ hA hPv hn hm hk => ?_, fun A' E' i v s₂ m₂ hA hPv hp hn hm hk => ?_⟩
      · simp only [List.forIn_nil]
        exact wpAny_pure ⟨rfl, keeps_refl _⟩
      · rw [List.getElem?_toArray] at hPv
        obtain ⟨n, t, hn', rfl⟩ := vals_intsN rv i v hPv
        refine wpAny_mono (hel pins σ H1 s1 hd pb I1 ⟨ps, hPs⟩ rd A' E' n t s₂ m₂ _ _ (List.mem_of_getElem? hn') hn hm fun b o hb e => ?_) (fun y s3 r => ⟨⟨n, hn', r.1⟩, r.2⟩) fun _ _ e => e
        have e3 := keep3 b o hb e
        refine hk b (List.mem_range.mpr (Heap.lt_size e3)) (fun z => ?_) o (hhref b o e3)
        rw [List.mem_singleton.mp z] at e
        exact Nat.lt_irrefl _ (Heap.lt_size e)
    · intro g h5 tk5 gs hgb hag hsz5 hk5 W5 hat
      simp only [GxR.passing_true, List.length_range] at W5
      rw [← hlen] at W5
      refine hQ hd pb H1 g _ q1 ⟨_, _, _, _, _, W5.in4_1, by rw [hlen]; exact hat, ?_, fun s' hm => ?_⟩
      · intro j y sj Qj Ej hy hQj
        obtain ⟨i, hij, cc, hcc, rfl⟩ := hy
        obtain ⟨hj, ej⟩ := List.getElem?_eq_some_iff.mp hij
        rw [List.getElem_range] at ej
        subst ej
        have hQ2 : Qj (trF pb hd j) sj := hQj
        rw [trF_some hcc] at hQ2
        exact wpAny_truthy_bool hQ2
      · have J := hfin s'.heap s'.gens s'.drawn s'.toks (AllBare.movedS (I1.bare.push hgb) hm) fun b u hb hl e => hm.heap b u (fun z => ?_) (hk5 b u e)
        · obtain ⟨H2, a1, a2, a3⟩ := J
          rw [sh_eta s1 s' hm.os] at a3
          exact ⟨H2, a1, a2, a3⟩
        · rcases List.mem_cons.mp z with z | z
          · rw [z] at hl
            exact Nat.lt_irrefl _ hl
          · rcases List.mem_cons.mp z with z | z
            · exact hb z
            · cases z
  refine ⟨lim2, ?_⟩
  cases hf : codeAmong gpos ps.toList with
  | none =>
    refine wpAny_genexprCodeX hcode (cd.code hP2 ht) (cd.tab hP2) hf fun c' h' tk hx hge hlt hco' hrec htab' _ => ?_
    have szp : (s1.heap.push o).objs.size = s1.heap.objs.size + 1 := Heap.size_push ..
    have hge1 : s1.heap.objs.size ≤ c' := Nat.le_trans (by rw [szp]; exact Nat.le_succ _) hge
    refine cont _ h' tk hx (Nat.le_trans hge (Nat.le_of_lt hlt)) fun h4 g' d' t' hg hk4 => ?_
    obtain ⟨c2, oc, vs, tt, e2, hoc, hd', hv⟩ := hrec
    obtain rfl : c' = c2 := Value.ref.inj e2
    have nC : H1 c' = none := I1.hok.fresh hge1
    have ltP : P < h'.objs.size := Heap.lt_size htab'.2
    have tb4 := hk4 P _ (Nat.ne_of_lt hPlt) ltP htab'.2
    have neC : c' ≠ s1.heap.objs.size := Nat.ne_of_gt (Nat.lt_of_lt_of_le (by rw [szp]; exact Nat.lt_succ_self _) hge)
    have J := inv_code (q := X.env.qual ++ "<genexpr>") (more := #[rawInt gpos.line, rawInt gpos.col, .ref c']) (h' := h4) (g' := g') (d' := d') (t' := t') I1 hP
      (fun b u hb e => hk4 b u (Nat.ne_of_lt (Heap.lt_size e)) (Nat.lt_of_lt_of_le (Nat.lt_of_lt_of_le (Heap.lt_size e) (Nat.le_trans hge1 (Nat.le_of_lt hlt))) (Nat.le_refl _)) (hx b u hb (Heap.get?_push_of_some _ e))) tb4 hge1 ⟨oc, vs, tt, hk4 _ _ neC hlt hoc, hd', hv⟩ hg
    have hE : ExtN H1 (upd (upd H1 P (.tbl (ps ++ #[rawInt gpos.line, rawInt gpos.col, .ref c']))) c' (CodeO c' (X.env.qual ++ "<genexpr>"))) := fun b u e n => by
      rw [upd_ne (ne_of_none e nC), upd_ne (fun z => n ps (Option.some.inj (e.symm.trans (by rw [z]; exact hP))))]
      exact e
    refine ⟨_, hE, fun p hp => ?_, J⟩
    have eL : (ps ++ #[rawInt gpos.line, rawInt gpos.col, .ref c']).toList = ps.toList ++ [rawInt gpos.line, rawInt gpos.col, .ref c'] := by simp
    by_cases hb : p.1 = P
    · rw [hu p hp hb, hb]
      refine ⟨_, by rw [upd_ne (ne_of_none hP nC), upd_same], by rw [eL]; exact PySem.TriplesOk_snoc _ _ _ _ ht, fun p' cv hcv => ?_⟩
      rw [eL] at hcv
      rcases among_app2 _ ht hcv with z | ⟨z, z1, z2⟩
      · obtain ⟨c0, e1, e2⟩ := ha p' cv z
        exact ⟨c0, e1, hE _ _ e2 codeO_ne⟩
      · refine ⟨c', z, ?_⟩
        rw [← z1, ← z2, hn]
        exact upd_same
    · obtain ⟨ps', a1, a2, a3⟩ := tabs p hp
      refine ⟨ps', by rw [upd_ne (ne_of_none a1 nC), upd_ne hb]; exact a1, a2, fun p' cv hcv => ?_⟩
      obtain ⟨c0, e1, e2⟩ := a3 p' cv hcv
      exact ⟨c0, e1, hE _ _ e2 codeO_ne⟩
  | some cv =>
    refine wpAny_genexprCode_hit hcode (cd.code hP2 ht) hf ?_
    refine cont cv (s1.heap.push o) s1.toks (Heap.ExtBut.refl _ _) (Nat.le_refl _) fun h4 g' d' t' hg hk4 => ?_
    have szp : (s1.heap.push o).objs.size = s1.heap.objs.size + 1 := Heap.size_push ..
    have kk : ∀ b u, s1.heap.get? b = some u → h4.get? b = some u := fun b u e => hk4 b u (Nat.ne_of_lt (Heap.lt_size e)) (Nat.lt_of_lt_of_le (Heap.lt_size e) (by rw [szp]; exact Nat.le_succ _)) (Heap.get?_push_of_some _ e)
    have J := inv_tab (more := #[]) (h' := h4) (g' := g') (d' := d') (t' := t') I1 hP (fun b u _ e => kk b u e) (by rw [Array.append_empty]; exact kk P _ hPs) hg
    have e0 : upd H1 P (.tbl (ps ++ #[])) = H1 := by
      funext b
      by_cases hb : b = P
      · rw [hb, upd_same, hP, Array.append_empty]
      · exact upd_ne hb
    rw [e0] at J
    exact ⟨H1, ExtN.refl _, tabs, J⟩
def tAnyN (T : List NTab) (Rd : L2.St → Hp → List Nat → (Nat → Bool) → Prop) (te : TE) : TE := fun σ H Q => te σ H fun v H1 => ∃ (q : Addr) (hd : List Nat) (pb : Nat → Bool), v = .ref q ∧ H1 q = some (.lst (viN hd)) ∧ TabsN T H1 ∧ Rd σ H1 hd pb ∧ ∀ H2, ExtN H1 H2 → TabsN T H2 → Q (.bl (hd.any pb)) H2
theorem pe_anyN {T : List NTab} {nm : Nat → Nat → Str} {c P : Addr} {elt iter : Expr} {x : Str} {px p pos gpos : Pos} {scope : Scope} {Rd : L2.St → Hp → List Nat → (Nat → Bool) → Prop} {te : TE} {k : Nat}
    (hr : Room k X.A) (hg : Gl X "any") (hmg : X.mg "any" = none) (TB : TabB X.base X.mg c P) (hm : (P, nm) ∈ T) (hn : nm gpos.line gpos.col = X.env.qual ++ "<genexpr>") (hu : ∀ p ∈ T, p.1 = P → p.2 = nm) (hcode : X.env.code = .ref c) (S0 : GenK X.env.scope scope x) (hi : PE X iter te) (hel : EltN X P scope x elt Rd)
    (hs : ∀ v, genFold iter X.env v = pure v)
    (he : starEach [.GeneratorExp elt [⟨.Name x px, iter, [], 0⟩] scope gpos] X.env = (false, eval (.GeneratorExp elt [⟨.Name x px, iter, [], 0⟩] scope gpos) X.env) :: starEach [] X.env := by rfl) :
    PE X (.Call (.Name "any" p) [.GeneratorExp elt [⟨.Name x px, iter, [], 0⟩] scope gpos] [] pos) (tAnyN T Rd te) := by
  refine ⟨fun pins s σ H Q I h => ?_⟩
  refine wpAny_Call_Name_kw (ld_blt I hg hmg boot_any ?_)
  refine PyProof.Rows.callWith_builtin1 ?_ he (by rfl)
  rw [he]
  show wpAny _ _ (spliced ((false, eval (.GeneratorExp elt [⟨.Name x px, iter, [], 0⟩] scope gpos) X.env) :: backTo pos (starEach [] X.env))) _ _ s
  refine Calls.spliced_cons (gen_list (R := fun hd pb H1 => ∀ H2, ExtN H1 H2 → TabsN T H2 → Q (.bl (hd.any pb)) H2) hr TB hm hn hu hcode S0 hi hel hs I h fun hd pb H1 g s5 hR hG => ?_)
  obtain ⟨fp, wr, G, F, St, W, hst, htr, hI⟩ := hG
  refine Calls.spliced_nil ?_
  refine call_any_walkS (W.self 0 _ _ _ hst ⟨g, fp, wr, G, _, F, St, _, rfl, W, hst, htr, fun s' hmv => ?_⟩)
  obtain ⟨H2, hE, hT, J⟩ := hI s' hmv
  refine ⟨.bl _, H2, J, rfl, ?_⟩
  rw [any_trF hd pb]
  exact hR H2 hE hT
/-! ### the elements: xs[number], len(xs[number]) > 0 -/
def RdTruth (j : Nat) : L2.St → Hp → List Nat → (Nat → Bool) → Prop := fun σ H hd pb => ∃ (e : Addr) (bs : List Bool), σ[j]? = some (some (.ref e)) ∧ H e = some (.lst (bs.map V.bl)) ∧ ∀ i ∈ hd, bs[i]? = some (pb i)
def RdMany (j : Nat) : L2.St → Hp → List Nat → (Nat → Bool) → Prop := fun σ H hd pb => ∃ (e : Addr) (ls : List Addr), σ[j]? = some (some (.ref e)) ∧ H e = some (.lst (ls.map V.ref)) ∧ ∀ i ∈ hd, ∃ (l : Addr) (xs : List Nat), ls[i]? = some l ∧ H l = some (.lst (viN xs)) ∧ xs.length ≤ 1000000 ∧ pb i = decide (0 < xs.length)
/-- a captured list in the generator's own frame -/
theorem own_list {P : Addr} {scope : Scope} {y : Str} {j : Nat} {e : Addr} {vs : List V} {H1 : Hp} {s1 : Shared} (hfree : ∀ z ∈ scope.names, z.2 = .free → ∃ c, X.env.cells.lookup z.1 = some c) (hy : (y, NameKind.free) ∈ scope.names) (hN : X.N[j]? = some y) (hv : X.env.kindOf y = some .cell) (I : Inv X pins σ H1 s1)
    (hP : ∃ ps, s1.heap.get? P = some { cls := .none, data := .fields ps }) (hσ : σ[j]? = some (some (.ref e))) (he : H1 e = some (.lst vs)) {s₂ : Shared} (hk : ∀ b o, b ≠ P → s1.heap.get? b = some o → s₂.heap.get? b = some o) :
    ∃ (c : Addr) (its : List Value), (cloFrom X.env.cells scope.names []).lookup y = some c ∧ s₂.heap.IsCell c (some (.ref e)) ∧ s₂.heap.IsList e its.toArray ∧ Vals vs its ∧ vs.length ≤ sizeLine := by
  obtain ⟨ps, hP⟩ := hP
  obtain ⟨m, hn, hl⟩ := I.loc
  obtain ⟨u, r, l⟩ := hl j y (.ref e) hN hσ (.inr (.inl hv))
  obtain rfl : u = .ref e := r
  obtain ⟨its, rv, pl, hz⟩ := I.list (.inl (.inl he) : SqL X.K H1 e vs)
  rcases l with ⟨hk', _⟩ | ⟨_, c, hc, hcell⟩
  · rw [hv] at hk'
    cases hk'
  · obtain ⟨oc, h1, h2⟩ := hcell
    have cP : c ≠ P := fun z => by
      rw [z, hP] at h1
      cases h1
      cases h2
    obtain ⟨ol, h3, h4, h5⟩ := pl.isList
    have eP : e ≠ P := fun z => by
      rw [z, hP] at h3
      cases h3
      cases h4
    exact ⟨c, its, clo_has hfree hy hc, ⟨oc, hk c oc cP h1, h2⟩, ⟨ol, hk e ol eP h3, h4, h5⟩, rv, hz⟩
theorem elt_truth {P : Addr} {scope : Scope} {x y : Str} {j : Nat} {p1 p2 p3 : Pos} (hk : scope.kind = .function) (hx : scope.names.lookup x = some .local) (hy : scope.names.lookup y = some .free) (hmem : (y, NameKind.free) ∈ scope.names) (hfree : freeB X.env.scope scope = true)
    (hN : X.N[j]? = some y) (hv : X.env.kindOf y = some .cell) (d1 : (x == ("__debug__" : Str)) = false := by decide) (d2 : (y == ("__debug__" : Str)) = false := by decide) (d3 : (y == ("__classdict__" : Str)) = false := by decide) : EltN X P scope x (.Subscript (.Name y p1) (.Name x p2) p3) (RdTruth j) := by
  intro pins σ H1 s1 hd pb I1 hP rd A' E' i t s₂ m₂ C code hi hn hm hkeep
  obtain ⟨e, bs, hσ, he, hb⟩ := rd
  obtain ⟨c, its, hc, hcell, hlist, rv, hz⟩ := own_list (fun z hz e => I1.ok.has _ (free_of hfree z hz e)) hmem hN hv I1 hP hσ he hkeep
  refine PyProof.Rows.Subscript_ ?_
  refine wpAny_Name (wpAny_loadName_free hk hy hc hcell ?_ d3) d2
  refine wpAny_Name (wpAny_loadName_local hk hx hn hm ?_) d1
  have hbi := hb i hi
  obtain ⟨w, ew, rw'⟩ := rv.get (i := i) (x := .bl (pb i)) (by rw [List.getElem?_map, hbi]; rfl)
  obtain rfl : w = .bool (pb i) := rw'
  have hi2 := (List.getElem?_eq_some_iff.mp hbi).1
  rw [List.length_map] at hz
  refine PyProof.Rows.item_listR hlist (Int.natCast_nonneg i) ?_ (by rw [Int.toNat_natCast]; simpa using ew) ⟨rfl, GxR.keeps_refl _⟩
  have := L2.line63
  omega
theorem elt_many {P : Addr} {scope : Scope} {x y : Str} {j k : Nat} {p0 p1 p2 p3 p4 p5 p6 : Pos} (hk : scope.kind = .function) (hx : scope.names.lookup x = some .local) (hy : scope.names.lookup y = some .free) (hmem : (y, NameKind.free) ∈ scope.names) (hl : scope.names.lookup ("len" : Str) = some .globalImplicit) (hfree : freeB X.env.scope scope = true)
    (hN : X.N[j]? = some y) (hv : X.env.kindOf y = some .cell) (hmg : X.mg "len" = none) (d1 : (x == ("__debug__" : Str)) = false := by decide) (d2 : (y == ("__debug__" : Str)) = false := by decide) (d3 : (y == ("__classdict__" : Str)) = false := by decide) :
    EltN X P scope x (.Compare (.Call (.Name "len" p0) [.Subscript (.Name y p1) (.Name x p2) p3] [] p4) [.Gt] [.Constant (.int 0) k p5] p6) (RdMany j) := by
  intro pins σ H1 s1 hd pb I1 hP rd A' E' i t s₂ m₂ C code hi hn hm hkeep
  obtain ⟨e, ls, hσ, he, hb⟩ := rd
  obtain ⟨c, its, hc, hcell, hlist, rv, hz⟩ := own_list (fun z hz e => I1.ok.has _ (free_of hfree z hz e)) hmem hN hv I1 hP hσ he hkeep
  obtain ⟨l, xs, hli, hlx, lx, epb⟩ := hb i hi
  have hP' := hP
  obtain ⟨ps, hPs⟩ := hP'
  have notP : ∀ (b : Addr) (o : Obj), s1.heap.get? b = some o → (∀ vs, o.data ≠ .fields vs) → b ≠ P := fun b o e hd z => by
    rw [z, hPs] at e
    cases e
    exact hd _ rfl
  have hglob : s₂.heap.Ns mainGlobals X.mg := by
    obtain ⟨o, es, ep, ho, hd, r⟩ := I1.mod.glob.keeps I1.bk
    exact ⟨o, es, ep, hkeep _ o (notP _ o ho (by rw [hd]; intro vs z; cases z)) ho, hd, r⟩
  obtain ⟨mb, hb1, hb2⟩ := I1.mod.blt
  have hblt : s₂.heap.Ns builtinsNs mb := by
    obtain ⟨o, es, ep, ho, hd, r⟩ := hb1.keeps I1.bk
    exact ⟨o, es, ep, hkeep _ o (notP _ o ho (by rw [hd]; intro vs z; cases z)) ho, hd, r⟩
  obtain ⟨itl, rvl, pll, hzl⟩ := I1.list (.inl (.inl hlx) : SqL X.K H1 l (viN xs))
  have hll : s₂.heap.IsList l itl.toArray := by
    obtain ⟨ol, h3, h4, ne, h5⟩ := pll.isList
    exact ⟨ol, hkeep l ol (notP l ol h3 (by rw [h5]; intro vs z; cases z)) h3, h4, ne, h5⟩
  have hll2 : itl.length = xs.length := by
    have := rvl.length
    rw [List.length_map] at this
    exact this.symm
  refine wpAny_Compare1 ?_
  refine wpAny_Call_Name_kw ?_
  refine Calls.Name_function_global hk hl (Calls.loadGlobal_builtin (mg := X.mg) (mb := mb) (by show s₂.heap.Ns X.env.globals X.mg; rw [I1.ok.glob]; exact hglob) hmg hblt ((hb2 "len" (by decide)).trans boot_len) ?_)
  refine PyProof.Rows.callWith_builtin1 ?_ rfl (by rfl)
  refine Calls.spliced_cons ?_
  refine PyProof.Rows.Subscript_ ?_
  refine wpAny_Name (wpAny_loadName_free hk hy hc hcell ?_ d3) d2
  refine wpAny_Name (wpAny_loadName_local hk hx hn hm ?_) d1
  obtain ⟨w, ew, rw'⟩ := rv.get (i := i) (x := .ref l) (by rw [List.getElem?_map, hli]; rfl)
  obtain rfl : w = .ref l := rw'
  have hi2 := (List.getElem?_eq_some_iff.mp hli).1
  rw [List.length_map] at hz
  have l63 := L2.line63
  refine PyProof.Rows.item_listR hlist (Int.natCast_nonneg i) (by omega) (by rw [Int.toNat_natCast]; simpa using ew) ?_
  refine Calls.spliced_nil ?_
  refine Calls.call_len_list hll (by rw [List.size_toArray, hll2]; rw [List.length_map] at hzl; omega) ?_
  refine wpAny_Constant_int ?_
  refine PySem.P.gt_int ⟨?_, ?_⟩
  · rw [epb, List.size_toArray, hll2]
    congr 1
    by_cases h : 0 < xs.length
    · rw [decide_eq_true h, decide_eq_true (show ((xs.length : Nat) : Int) > 0 by omega)]
    · rw [decide_eq_false h, decide_eq_false (show ¬ ((xs.length : Nat) : Int) > 0 by omega)]
  · exact ⟨_, _, rfl, fun _ _ e => e⟩
end
end LH

namespace LH
open PySem PySem.Spec PyProof.Rows L2
/-! ### sorted(list of texts), of any length -/
theorem leS_total : PySem.W.TotalLe fun a b : Str => decide (a.cps.toList ≤ b.cps.toList) where
  trans a b c h1 h2 := decide_eq_true (Std.le_trans (of_decide_eq_true h1) (of_decide_eq_true h2))
  total a b := by
    rw [decide_eq_true_iff, decide_eq_true_iff]
    exact Std.le_total
theorem pwS_sorted : ∀ {l : List Str}, (l.Pairwise fun a b => ltCps b.cps.toList a.cps.toList = false) → sortedS l = true
  | [], _ => rfl
  | [x], _ => rfl
  | x :: y :: r, h => by
    obtain ⟨h1, h2⟩ := List.pairwise_cons.mp h
    have ih := pwS_sorted h2
    show (!ltCps y.cps.toList x.cps.toList && sortedS (y :: r)) = true
    rw [h1 y List.mem_cons_self, ih]
    rfl
theorem each_valsS : ∀ {xs : List Str} {us : List Value}, Vals (xs.map V.str) us → PySem.W.EachIs (fun (u : Value) (x : Str) => RelV (.str x) u) us xs
  | [], _, .nil => .nil
  | _ :: _, _, .cons h t => .cons h (each_valsS t)
theorem valsS_each : ∀ {xs : List Str} {us : List Value}, PySem.W.EachIs (fun (u : Value) (x : Str) => RelV (.str x) u) us xs → Vals (xs.map V.str) us
  | _, _, .nil => .nil
  | _, _, .cons h t => .cons h (valsS_each t)
section
variable {X : Cx} (K : PySem.W.Frag) (hK : X.K = K)
include hK
theorem call_sortedX (hu : X.A.units + 64 < cLine) : CallR X (.builtin "sorted") (fun vs H Q => ∃ (a : Addr) (xs : List Str), vs = [.ref a] ∧ SqL K H a (xs.map V.str) ∧ ∀ ys p, ys.Perm xs → sortedS ys = true → H p = none → Q (.ref p) (upd H p (.lst (ys.map V.str)))) := by
  subst hK
  intro pins s σ H vs us Q I r h
  obtain ⟨a, xs, rfl, hs, q⟩ := h
  obtain ⟨its, rv, hl, hz⟩ := I.list hs
  rw [List.length_map] at hz
  obtain ⟨u, rfl, ru⟩ := vals1 r
  obtain rfl : u = Value.ref a := ru
  have e1 := each_valsS rv
  have e2 : PySem.W.EachIs (fun v (b : Str) => ∃ as, Reads s.heap v (.str b) as) its xs := by
    have go : ∀ {xs : List Str} {us : List Value}, PySem.W.EachIs (fun (u : Value) (x : Str) => RelV (.str x) u) us xs → PySem.W.EachIs (fun v (b : Str) => ∃ as, Reads s.heap v (.str b) as) us xs := by
      intro xs us h
      induction h with
      | nil => exact .nil
      | cons h _ ih =>
        obtain ⟨t, rfl⟩ := h
        exact .cons ⟨_, .str _ _⟩ ih
    exact go e1
  refine PySem.W.sorted_data (R := fun (u : Value) (x : Str) => RelV (.str x) u) (enc := PyData.str) hl.isList e1 e2 (PySem.W.AllAlike.of fun b b' => by simp [PySem.W.alike]) (PySem.W.Sortable.others fun b => ⟨by simp, by simp⟩) hz (fun b _ => ?_) fun out ho eo => ?_
  · have : (PyData.str b).depth = 0 := by simp [PyData.depth]
    omega
  · obtain ⟨e, he⟩ := PyProof.Rows.sortedAll_at s.heap its out.toArray
    rw [show PySem.W.dataLe false PyData.str = fun a b : Str => decide (a.cps.toList ≤ b.cps.toList) from PySem.W.dataLe_str (fun b : Str => b)] at eo
    have fr : H (s.heap.objs.size + 1) = none := I.hok.fresh (Nat.le_succ _)
    refine ⟨.ref (s.heap.objs.size + 1), upd H (s.heap.objs.size + 1) (.lst ((xs.mergeSort fun a b => decide (a.cps.toList ≤ b.cps.toList)).map V.str)), ?_, rfl, q _ _ (List.mergeSort_perm _ _) (pwS_sorted ((PySem.W.sort_pairwise leS_total xs).imp fun h => ?_)) fr⟩
    · refine I.laid (t' := s.toks) (fun b o hb => PyProof.Rows.sortedAll_old hb) (Nat.le_succ _) (show ObjOk X.prog X.w _ _ _ (.lst _) from ⟨?_, out, e, valsS_each eo, he⟩)
      rw [List.length_map, List.length_mergeSort]
      exact hz
    · rw [ltCps_eq]
      exact decide_eq_false (Std.not_lt.mpr (of_decide_eq_true h))
end
end LH

namespace LH
open PySem PySem.Spec PyProof.Rows L2
def topS (i : Nat) : Stmt := PySem.Challenge.pw_likehands_k61_windows_of_machines.main.body.getD i (.Pass ⟨0, 0, 0, 0⟩)
abbrev s_useful_ways : Stmt := topS 1
abbrev N_useful_ways : List Str := ["starts", "moves", "is_end", "keys", "rows", "ended", "leads", "numbers", "old", "width", "ways", "firsts", "key", "column", "to"]
theorem sc_useful_ways : FnScope N_useful_ways ["starts", "moves", "is_end"] (defScope s_useful_ways) := ⟨rfl, rfl, rfl, by decide +kernel, rfl, by decide +kernel, by decide +kernel⟩
abbrev s_explored : Stmt := topS 2
abbrev N_explored : List Str := ["starts", "moves", "keys", "numbers", "rows", "row", "behind", "group", "key", "number"]
theorem sc_explored : FnScope N_explored ["starts", "moves"] (defScope s_explored) := ⟨rfl, rfl, rfl, by decide +kernel, rfl, by decide +kernel, by decide +kernel⟩
abbrev s_leading : Stmt := topS 3
abbrev N_leading : List Str := ["rows", "ended", "back", "number", "row", "group", "target", "leads", "found", "stop"]
theorem sc_leading : FnScope N_leading ["rows", "ended"] (defScope s_leading) := ⟨rfl, rfl, rfl, by decide +kernel, rfl, by decide +kernel, by decide +kernel⟩
abbrev s_unseen : Stmt := topS 4
abbrev N_unseen : List Str := ["lists", "seen", "fresh", "keys", "key"]
theorem sc_unseen : FnScope N_unseen ["lists", "seen"] (defScope s_unseen) := ⟨rfl, rfl, rfl, by decide +kernel, rfl, by decide +kernel, by decide +kernel⟩
abbrev s_end_marks : Stmt := topS 6
abbrev N_end_marks : List Str := ["machine", "letters", "table", "ends", "marks", "state", "row"]
theorem sc_end_marks : FnScope N_end_marks ["machine"] (defScope s_end_marks) := ⟨rfl, rfl, rfl, by decide +kernel, rfl, by decide +kernel, by decide +kernel⟩
abbrev s_ways_of : Stmt := topS 7
abbrev N_ways_of : List Str := ["machine", "letters", "table", "ends", "marks", "moves", "is_end"]
theorem sc_ways_of : FnScope N_ways_of ["machine"] (defScope s_ways_of) := ⟨rfl, rfl, rfl, by decide +kernel, rfl, by decide +kernel, by decide +kernel⟩
abbrev s_windows_of : Stmt := topS 11
abbrev N_windows_of : List Str := ["machine", "size", "firsts", "ways", "ended"]
theorem sc_windows_of : FnScope N_windows_of ["machine", "size"] (defScope s_windows_of) := ⟨rfl, rfl, rfl, by decide +kernel, rfl, by decide +kernel, by decide +kernel⟩
abbrev s_windows_of_ways : Stmt := topS 12
abbrev N_windows_of_ways : List Str := ["letters", "firsts", "ways", "ended", "size", "windows", "held", "numbers", "letter", "column"]
theorem sc_windows_of_ways : FnScope N_windows_of_ways ["letters", "firsts", "ways", "ended", "size"] (defScope s_windows_of_ways) := ⟨rfl, rfl, rfl, by decide +kernel, rfl, by decide +kernel, by decide +kernel⟩
abbrev s_reached_behind : Stmt := topS 13
abbrev N_reached_behind : List Str := ["letters", "firsts", "ways", "size", "reached", "many", "marks", "newest", "turn"]
theorem sc_reached_behind : FnScope N_reached_behind ["letters", "firsts", "ways", "size"] (defScope s_reached_behind) := ⟨rfl, rfl, rfl, by decide +kernel, rfl, by decide +kernel, by decide +kernel⟩
abbrev s_one_letter_on : Stmt := topS 14
abbrev N_one_letter_on : List Str := ["letters", "ways", "reached", "longer", "held", "numbers", "letter", "column", "later", "number"]
theorem sc_one_letter_on : FnScope N_one_letter_on ["letters", "ways", "reached"] (defScope s_one_letter_on) := ⟨rfl, rfl, rfl, by decide +kernel, rfl, by decide +kernel, by decide +kernel⟩
abbrev s_last_windows : Stmt := topS 15
abbrev N_last_windows : List Str := ["held", "size", "signs", "at"]
theorem sc_last_windows : FnScope N_last_windows ["held", "size"] (defScope s_last_windows) := ⟨rfl, rfl, rfl, by decide +kernel, rfl, by decide +kernel, by decide +kernel⟩
abbrev s_law_mixed : Stmt := topS 17
abbrev N_law_mixed : List Str := ["cell", "k", "number"]
theorem sc_law_mixed : FnScope N_law_mixed ["cell", "k"] (defScope s_law_mixed) := ⟨rfl, rfl, rfl, by decide +kernel, rfl, by decide +kernel, by decide +kernel⟩
abbrev s_law_purse : Stmt := topS 18
abbrev N_law_purse : List Str := ["script", "at", "step", "many", "cells", "rests", "purse", "k", "place", "cell"]
theorem sc_law_purse : FnScope N_law_purse ["script", "at", "step", "many"] (defScope s_law_purse) := ⟨rfl, rfl, rfl, by decide +kernel, rfl, by decide +kernel, by decide +kernel⟩
abbrev s_law_next : Stmt := topS 19
abbrev N_law_next : List Str := ["purse"]
theorem sc_law_next : FnScope N_law_next ["purse"] (defScope s_law_next) := ⟨rfl, rfl, rfl, by decide +kernel, rfl, by decide +kernel, by decide +kernel⟩
abbrev s_law_turned : Stmt := topS 20
abbrev N_law_turned : List Str := ["purse", "letters", "every", "turn", "sign"]
theorem sc_law_turned : FnScope N_law_turned ["purse", "letters"] (defScope s_law_turned) := ⟨rfl, rfl, rfl, by decide +kernel, rfl, by decide +kernel, by decide +kernel⟩
abbrev s_law_machine : Stmt := topS 21
abbrev N_law_machine : List Str := ["purse", "letters", "most", "many", "table", "state", "ends", "letter"]
theorem sc_law_machine : FnScope N_law_machine ["purse", "letters", "most"] (defScope s_law_machine) := ⟨rfl, rfl, rfl, by decide +kernel, rfl, by decide +kernel, by decide +kernel⟩
abbrev s_law_behind : Stmt := topS 22
abbrev N_law_behind : List Str := ["machine", "state", "word", "sign"]
theorem sc_law_behind : FnScope N_law_behind ["machine", "state", "word"] (defScope s_law_behind) := ⟨rfl, rfl, rfl, by decide +kernel, rfl, by decide +kernel, by decide +kernel⟩
abbrev s_law_texts : Stmt := topS 23
abbrev N_law_texts : List Str := ["letters", "size", "found", "k", "longer", "text", "letter"]
theorem sc_law_texts : FnScope N_law_texts ["letters", "size"] (defScope s_law_texts) := ⟨rfl, rfl, rfl, by decide +kernel, rfl, by decide +kernel, by decide +kernel⟩
abbrev s_law_come_to : Stmt := topS 24
abbrev N_law_come_to : List Str := ["machine", "found", "at", "state"]
theorem sc_law_come_to : FnScope N_law_come_to ["machine"] (defScope s_law_come_to) := ⟨rfl, rfl, rfl, by decide +kernel, rfl, by decide +kernel, by decide +kernel⟩
abbrev s_law_good : Stmt := topS 25
abbrev N_law_good : List Str := ["machine", "found", "turn", "state", "one"]
theorem sc_law_good : FnScope N_law_good ["machine"] (defScope s_law_good) := ⟨rfl, rfl, rfl, by decide +kernel, rfl, by decide +kernel, by decide +kernel⟩
abbrev s_law_is : Stmt := topS 26
abbrev N_law_is : List Str := ["machine", "reached", "good", "ahead", "middle", "last", "starts", "goals", "state"]
theorem sc_law_is : FnScope N_law_is ["machine", "reached", "good", "ahead", "middle", "last"] (defScope s_law_is) := ⟨rfl, rfl, rfl, by decide +kernel, rfl, by decide +kernel, by decide +kernel⟩
abbrev s_law_due : Stmt := topS 27
abbrev N_law_due : List Str := ["machine", "size", "reached", "good", "found", "ahead", "last", "middle"]
theorem sc_law_due : FnScope N_law_due ["machine", "size"] (defScope s_law_due) := ⟨rfl, rfl, rfl, by decide +kernel, rfl, by decide +kernel, by decide +kernel⟩
abbrev s_law_chain : Stmt := topS 28
abbrev N_law_chain : List Str := ["purse", "letters", "many", "table", "state", "row", "letter"]
theorem sc_law_chain : FnScope N_law_chain ["purse", "letters"] (defScope s_law_chain) := ⟨rfl, rfl, rfl, by decide +kernel, rfl, by decide +kernel, by decide +kernel⟩
abbrev s_law : Stmt := topS 29
abbrev N_law : List Str := ["script", "held", "k", "purse", "letters", "machine", "size", "due", "found", "again", "one"]
theorem sc_law : FnScope N_law ["script"] (defScope s_law) := ⟨rfl, rfl, rfl, by decide +kernel, rfl, by decide +kernel, by decide +kernel⟩
structure TX (K : PySem.W.Frag) (mg : Str → Option Value) where
  a_useful_ways : Addr
  fd_useful_ways : FuncData
  F_useful_ways : Fun K "useful_ways" "useful_ways" s_useful_ways a_useful_ways fd_useful_ways
  b_useful_ways : Binds K fd_useful_ways ["starts", "moves", "is_end"] []
  g_useful_ways : mg "useful_ways" = some (.ref a_useful_ways)
  a_explored : Addr
  fd_explored : FuncData
  F_explored : Fun K "explored" "explored" s_explored a_explored fd_explored
  b_explored : Binds K fd_explored ["starts", "moves"] []
  g_explored : mg "explored" = some (.ref a_explored)
  a_leading : Addr
  fd_leading : FuncData
  F_leading : Fun K "leading" "leading" s_leading a_leading fd_leading
  b_leading : Binds K fd_leading ["rows", "ended"] []
  g_leading : mg "leading" = some (.ref a_leading)
  a_unseen : Addr
  fd_unseen : FuncData
  F_unseen : Fun K "unseen" "unseen" s_unseen a_unseen fd_unseen
  b_unseen : Binds K fd_unseen ["lists", "seen"] []
  g_unseen : mg "unseen" = some (.ref a_unseen)
  a_end_marks : Addr
  fd_end_marks : FuncData
  F_end_marks : Fun K "end_marks" "end_marks" s_end_marks a_end_marks fd_end_marks
  b_end_marks : Binds K fd_end_marks ["machine"] []
  g_end_marks : mg "end_marks" = some (.ref a_end_marks)
  a_ways_of : Addr
  fd_ways_of : FuncData
  F_ways_of : Fun K "ways_of" "ways_of" s_ways_of a_ways_of fd_ways_of
  b_ways_of : Binds K fd_ways_of ["machine"] []
  g_ways_of : mg "ways_of" = some (.ref a_ways_of)
  a_windows_of : Addr
  fd_windows_of : FuncData
  F_windows_of : Fun K "windows_of" "windows_of" s_windows_of a_windows_of fd_windows_of
  b_windows_of : Binds K fd_windows_of ["machine", "size"] []
  g_windows_of : mg "windows_of" = some (.ref a_windows_of)
  a_windows_of_ways : Addr
  fd_windows_of_ways : FuncData
  F_windows_of_ways : Fun K "windows_of_ways" "windows_of_ways" s_windows_of_ways a_windows_of_ways fd_windows_of_ways
  b_windows_of_ways : Binds K fd_windows_of_ways ["letters", "firsts", "ways", "ended", "size"] []
  g_windows_of_ways : mg "windows_of_ways" = some (.ref a_windows_of_ways)
  a_reached_behind : Addr
  fd_reached_behind : FuncData
  F_reached_behind : Fun K "reached_behind" "reached_behind" s_reached_behind a_reached_behind fd_reached_behind
  b_reached_behind : Binds K fd_reached_behind ["letters", "firsts", "ways", "size"] []
  g_reached_behind : mg "reached_behind" = some (.ref a_reached_behind)
  a_one_letter_on : Addr
  fd_one_letter_on : FuncData
  F_one_letter_on : Fun K "one_letter_on" "one_letter_on" s_one_letter_on a_one_letter_on fd_one_letter_on
  b_one_letter_on : Binds K fd_one_letter_on ["letters", "ways", "reached"] []
  g_one_letter_on : mg "one_letter_on" = some (.ref a_one_letter_on)
  a_last_windows : Addr
  fd_last_windows : FuncData
  F_last_windows : Fun K "last_windows" "last_windows" s_last_windows a_last_windows fd_last_windows
  b_last_windows : Binds K fd_last_windows ["held", "size"] []
  g_last_windows : mg "last_windows" = some (.ref a_last_windows)
  a_law_mixed : Addr
  fd_law_mixed : FuncData
  F_law_mixed : Fun K "_law_mixed" "_law_mixed" s_law_mixed a_law_mixed fd_law_mixed
  b_law_mixed : Binds K fd_law_mixed ["cell", "k"] []
  g_law_mixed : mg "_law_mixed" = some (.ref a_law_mixed)
  a_law_purse : Addr
  fd_law_purse : FuncData
  F_law_purse : Fun K "_law_purse" "_law_purse" s_law_purse a_law_purse fd_law_purse
  b_law_purse : Binds K fd_law_purse ["script", "at", "step", "many"] []
  g_law_purse : mg "_law_purse" = some (.ref a_law_purse)
  a_law_next : Addr
  fd_law_next : FuncData
  F_law_next : Fun K "_law_next" "_law_next" s_law_next a_law_next fd_law_next
  b_law_next : Binds K fd_law_next ["purse"] []
  g_law_next : mg "_law_next" = some (.ref a_law_next)
  a_law_turned : Addr
  fd_law_turned : FuncData
  F_law_turned : Fun K "_law_turned" "_law_turned" s_law_turned a_law_turned fd_law_turned
  b_law_turned : Binds K fd_law_turned ["purse", "letters"] []
  g_law_turned : mg "_law_turned" = some (.ref a_law_turned)
  a_law_machine : Addr
  fd_law_machine : FuncData
  F_law_machine : Fun K "_law_machine" "_law_machine" s_law_machine a_law_machine fd_law_machine
  b_law_machine : Binds K fd_law_machine ["purse", "letters", "most"] []
  g_law_machine : mg "_law_machine" = some (.ref a_law_machine)
  a_law_behind : Addr
  fd_law_behind : FuncData
  F_law_behind : Fun K "_law_behind" "_law_behind" s_law_behind a_law_behind fd_law_behind
  b_law_behind : Binds K fd_law_behind ["machine", "state", "word"] []
  g_law_behind : mg "_law_behind" = some (.ref a_law_behind)
  a_law_texts : Addr
  fd_law_texts : FuncData
  F_law_texts : Fun K "_law_texts" "_law_texts" s_law_texts a_law_texts fd_law_texts
  b_law_texts : Binds K fd_law_texts ["letters", "size"] []
  g_law_texts : mg "_law_texts" = some (.ref a_law_texts)
  a_law_come_to : Addr
  fd_law_come_to : FuncData
  F_law_come_to : Fun K "_law_come_to" "_law_come_to" s_law_come_to a_law_come_to fd_law_come_to
  b_law_come_to : Binds K fd_law_come_to ["machine"] []
  g_law_come_to : mg "_law_come_to" = some (.ref a_law_come_to)
  a_law_good : Addr
  fd_law_good : FuncData
  F_law_good : Fun K "_law_good" "_law_good" s_law_good a_law_good fd_law_good
  b_law_good : Binds K fd_law_good ["machine"] []
  g_law_good : mg "_law_good" = some (.ref a_law_good)
  a_law_is : Addr
  fd_law_is : FuncData
  F_law_is : Fun K "_law_is" "_law_is" s_law_is a_law_is fd_law_is
  b_law_is : Binds K fd_law_is ["machine", "reached", "good", "ahead", "middle", "last"] []
  g_law_is : mg "_law_is" = some (.ref a_law_is)
  a_law_due : Addr
  fd_law_due : FuncData
  F_law_due : Fun K "_law_due" "_law_due" s_law_due a_law_due fd_law_due
  b_law_due : Binds K fd_law_due ["machine", "size"] []
  g_law_due : mg "_law_due" = some (.ref a_law_due)
  a_law_chain : Addr
  fd_law_chain : FuncData
  F_law_chain : Fun K "_law_chain" "_law_chain" s_law_chain a_law_chain fd_law_chain
  b_law_chain : Binds K fd_law_chain ["purse", "letters"] []
  g_law_chain : mg "_law_chain" = some (.ref a_law_chain)
  m_abs : mg "abs" = none
  m_any : mg "any" = none
  m_enumerate : mg "enumerate" = none
  m_int : mg "int" = none
  m_isinstance : mg "isinstance" = none
  m_len : mg "len" = none
  m_list : mg "list" = none
  m_min : mg "min" = none
  m_range : mg "range" = none
  m_reversed : mg "reversed" = none
  m_set : mg "set" = none
  m_sorted : mg "sorted" = none
  m_tuple : mg "tuple" = none
  m_zip : mg "zip" = none
  t_BACK : Tok
  c_BACK : mg "BACK" = some (.str "$" t_BACK)
  t_FRONT : Tok
  c_FRONT : mg "FRONT" = some (.str "^" t_FRONT)
/-! ### purses: lists of numbers, taken from behind -/
def RowAt (H : Hp) (r : Addr) : Prop := ∃ ns : List Int, H r = some (.lst (ns.map V.int)) ∧ ns.length ≤ 1000
/-- all that was tracked, but for what stands at r, is as it was -/
def Off (r : Addr) (H H' : Hp) : Prop := ∀ b o, b ≠ r → H b = some o → H' b = some o
theorem Off.refl (r : Addr) (H : Hp) : Off r H H := fun _ _ _ h => h
theorem Off.trans {r : Addr} {H H1 H2 : Hp} (a : Off r H H1) (b : Off r H1 H2) : Off r H H2 := fun c o n h => b c o n (a c o n h)
theorem Off.of {r : Addr} {H H' : Hp} (a : Same H H') : Off r H H' := fun c o _ h => a c o h
theorem Off.new {r p : Addr} {H : Hp} {o : HO} (h : H p = none) : Off r H (upd H p o) := fun b x _ e => by
  rw [upd_ne (ne_of_none e h)]
  exact e
theorem Off.put {r : Addr} {H : Hp} {o : HO} : Off r H (upd H r o) := fun b x n e => by
  rw [upd_ne n]
  exact e
theorem Off.mut {r p : Addr} {H H' : Hp} {o : HO} (e : Off r H H') (h : H p = none) : Off r H (upd H' p o) := fun a u n ha => by
  rw [upd_ne (ne_of_none ha h)]
  exact e a u n ha
theorem Off.free {r p : Addr} {H H' : Hp} (e : Off r H H') (hr : r ≠ p) (h : H' p = none) : H p = none := by
  cases q : H p with
  | none => rfl
  | some o =>
    rw [e p o (Ne.symm hr) q] at h
    cases h
theorem RowAt.new {r p : Addr} {H : Hp} {o : HO} (x : RowAt H r) (h : H p = none) : RowAt (upd H p o) r := by
  obtain ⟨ns, e, q⟩ := x
  exact ⟨ns, by rw [upd_ne (ne_of_none e h)]; exact e, q⟩
theorem RowAt.upd {r p : Addr} {H : Hp} {o : HO} (x : RowAt H r) (h : r ≠ p) : RowAt (upd H p o) r := by
  obtain ⟨ns, e, q⟩ := x
  exact ⟨ns, by rw [upd_ne h]; exact e, q⟩
theorem RowAt.same {r : Addr} {H H' : Hp} (x : RowAt H r) (h : Same H H') : RowAt H' r := by
  obtain ⟨ns, e, q⟩ := x
  exact ⟨ns, h _ _ e, q⟩
theorem RowAt.ne {r p : Addr} {H : Hp} (x : RowAt H r) (h : H p = none) : r ≠ p := by
  obtain ⟨ns, e, q⟩ := x
  exact ne_of_none e h
theorem RowAt.neT {r p : Addr} {H : Hp} {xs : List V} (x : RowAt H r) (h : H p = some (.tup xs)) : p ≠ r := by
  obtain ⟨ns, e, q⟩ := x
  exact ne_of h e (by intro z; cases z)
theorem same_new {H : Hp} {p : Addr} {o : HO} (h : H p = none) : Same H (upd H p o) := fun b x e => by
  rw [upd_ne (ne_of_none e h)]
  exact e
theorem same_putN {H H' : Hp} {p : Addr} {o : HO} (e : Same H H') (h : H p = none) : Same H (L2.upd H' p o) := fun b x eb => by
  rw [upd_ne (ne_of_none eb h)]
  exact e b x eb
section
variable {P : Program} {w : World} {K : PySem.W.Frag} {mg : Str → Option Value} {base : Heap}
theorem dpI {K : PySem.W.Frag} {H : Hp} : ∀ ns : List Int, DpAll K H (ns.map V.int) (ns.map PyData.int)
  | [] => .nil
  | n :: r => .cons (.int _) (dpI r)
theorem shapedI (ns : List Int) : SeqAt.shaped (.list (ns.map PyData.int)) = true := by
  have all : PyData.canLayAll0 (ns.map PyData.int) = true ∧ PyData.depthAll (ns.map PyData.int) = 0 := by
    induction ns with
    | nil => exact ⟨rfl, rfl⟩
    | cons n r ih =>
      refine ⟨?_, ?_⟩
      · show (true && PyData.canLayAll0 (r.map PyData.int)) = true
        rw [ih.1]
        rfl
      · show max 0 (PyData.depthAll (r.map PyData.int)) = 0
        rw [ih.2]
        rfl
  unfold SeqAt.shaped
  rw [Bool.and_eq_true]
  refine ⟨all.1, decide_eq_true ?_⟩
  show PyData.depthAll (ns.map PyData.int) + 1 ≤ 64
  omega
theorem eqv_nilI (ns : List Int) : PyData.eqv (.list (ns.map PyData.int)) (.list []) = decide (ns = []) := by
  cases ns with
  | nil => rfl
  | cons x r => simp [PyData.eqv, PyData.eqvAll]
theorem vI_snoc (ns : List Int) (x : Int) : ns.map V.int ++ [V.int x] = (ns ++ [x]).map V.int := by
  rw [List.map_append]
  rfl
theorem vI_at {ns : List Int} {j : Nat} {x : V} (h : (ns.map V.int)[j]? = some x) : ∃ c, ns[j]? = some c ∧ x = .int c := by
  rw [List.getElem?_map] at h
  obtain ⟨c, e, z⟩ := Option.map_eq_some_iff.mp h
  exact ⟨c, e, z.symm⟩
theorem vI_get {ns : List Int} {j : Nat} {c : Int} (h : ns[j]? = some c) : (ns.map V.int)[j]? = some (.int c) := by
  rw [List.getElem?_map, h]
  rfl
theorem vI_of : ∀ ys : List V, (∀ y ∈ ys, ∃ c, y = V.int c) → ∃ cs : List Int, ys = cs.map V.int
  | [], _ => ⟨[], rfl⟩
  | y :: r, h => by
    obtain ⟨c, rfl⟩ := h y List.mem_cons_self
    obtain ⟨cs, rfl⟩ := vI_of r fun z hz => h z (List.mem_cons_of_mem _ hz)
    exact ⟨c :: cs, rfl⟩
/-! ### _law_mixed -/
def sp_law_mixed : Sp := fun vs H Q _ => ∃ c k : Int, vs = [.int c, .int k] ∧ ∀ g, Q (.int g) H
theorem ok_law_mixed (T : TX K mg) : FnOk P w K mg base CX0 1 T.a_law_mixed T.fd_law_mixed ["cell", "k"] sp_law_mixed := by
  refine T.F_law_mixed.ok sc_law_mixed (fun vs H Q E h => ?_) (fun cdv A outer s H vs Q E hr h => ?_)
  · obtain ⟨c, k, rfl, _⟩ := h
    rfl
  · obtain ⟨c, k, rfl, q⟩ := h
    refine ⟨_, (pss_cons (ps_set (i := 2) sc_law_mixed.nd rfl (Or.inl rfl) (pe_op op_mod (pe_op op_add (pe_op op_mod (pv 0) pe_int) (pe_op op_mul pe_int (pe_op op_add (pv 1) pe_int))) pe_int))
      (pss_cons (ps_set (i := 2) sc_law_mixed.nd rfl (Or.inl rfl) (pe_op op_mod (pe_op op_add (pe_op op_add (pe_op op_mul (pv 2) (pv 2)) (pe_op op_mul pe_int (pv 2))) (pv 1)) pe_int))
      (pss_cons (ps_set (i := 2) sc_law_mixed.nd rfl (Or.inl rfl) (pe_op op_mod (pe_op op_mul (pv 2) (pv 2)) pe_int))
      (pss_one (ps_ret (pe_op op_fdiv (pe_op op_mod (pe_op op_mul (pv 2) pe_int) pe_int) pe_int)))))), ?_⟩
    have B : ∀ a m : Int, 0 < m → m < 2 ^ 40 → -(2 ^ 64) < a % m ∧ a % m < 2 ^ 64 := fun a m h1 h2 => by
      have g0 := Int.emod_nonneg a (show m ≠ 0 by omega)
      have g1 := Int.emod_lt_of_pos a h1
      omega
    refine ⟨.int c, rfl, c, 2147483647, rfl, rfl, (by show (0 : Int) < 2147483647; decide), .int k, rfl, k, 1, rfl, rfl, 40692, k + 1, rfl, rfl, .inl ⟨by decide, by decide⟩, _, _, rfl, rfl, _, 2147483647, rfl, rfl, (by show (0 : Int) < 2147483647; decide), ?_⟩
    refine ⟨_, rfl, _, rfl, _, _, rfl, rfl, .inl (B _ _ (by decide) (by decide)), _, rfl, 48271, _, rfl, rfl, .inl ⟨by decide, by decide⟩, _, _, rfl, rfl, .int k, rfl, _, k, rfl, rfl, _, 2147483647, rfl, rfl, (by show (0 : Int) < 2147483647; decide), ?_⟩
    refine ⟨_, rfl, _, rfl, _, _, rfl, rfl, .inl (B _ _ (by decide) (by decide)), _, 2147483629, rfl, rfl, (by show (0 : Int) < 2147483629; decide), ?_⟩
    exact ⟨_, rfl, _, 69621, rfl, rfl, .inl (B _ _ (by decide) (by decide)), _, 2147483629, rfl, rfl, (by show (0 : Int) < 2147483629; decide), _, 8, rfl, rfl, ⟨by decide, by decide⟩, q _⟩
/-! ### _law_purse -/
def sp_law_purse (K : PySem.W.Frag) : Sp := fun vs H Q _ => ∃ (a : Addr) (ns : List Int) (at_ step many : Int), vs = [.ref a, .int at_, .int step, .int many] ∧ SqL K H a (ns.map V.int) ∧ ns.length ≤ 63 ∧ 1 ≤ step ∧ 0 ≤ many ∧ many ≤ 500 ∧
  ∀ H' p, Same H H' → H p = none → RowAt H' p → Q (.ref p) H'
theorem ok_law_purse (T : TX K mg) : FnOk P w K mg base CX0 2 T.a_law_purse T.fd_law_purse ["script", "at", "step", "many"] (sp_law_purse K) := by
  have G_law_mixed : FnOk P w K mg base CX0 1 T.a_law_mixed T.fd_law_mixed ["cell", "k"] sp_law_mixed := ok_law_mixed T
  refine T.F_law_purse.ok sc_law_purse (fun vs H Q E h => ?_) (fun cdv A outer s H vs Q E hr h => ?_)
  · obtain ⟨a, ns, at_, step, many, rfl, _⟩ := h
    rfl
  · obtain ⟨a, ns, at_, step, many, rfl, hS, hn, h1, m0, m1, q⟩ := h
    refine ⟨_, (pss_cons (ps_set (i := 4) sc_law_purse.nd rfl (Or.inl rfl) (pe_slice3L K rfl (pv 0) (po_some (pv 1)) (po_some pe_int) (po_some (pv 2))))
      (C8.pss_cut (ps_if (pt_cmpR (op_eqD hr.units) (pv 4) (pe_lst pa_nil) (nomark _))
        (pss_one (ps_set (i := 4) sc_law_purse.nd rfl (Or.inl rfl) (pe_lst (pa_cons (pv 1) pa_nil))))
        pss_nil)
      (pss_cons (ps_setLc (i := 5) (own := [("cell", 9)]) (g := gName 9) (tt := tYes) (by rfl) sc_law_purse.nd rfl rfl (sw_true rfl rfl rfl (by decide +kernel)) (pi_listK K rfl (pv 4)) (blkOk_by (own := [("cell", 9)]) (N := N_law_purse) (by kernel_rfl)) (fun _ _ _ _ _ => (pg_name (i := 9) sc_law_purse.nd rfl (by first | exact Or.inl rfl | exact Or.inr rfl))) (fun _ _ _ _ _ => pts_nil) (fun _ _ _ _ _ => (pe_op op_mul (pe_callB call_abs (by rfl) T.m_abs (by decide +kernel) (pa_cons (pv 9) pa_nil)) (pe_callTy call_int1 (by rfl) T.m_int (by decide +kernel) (pa_cons (pe_cmpR op_ge (pe_callB call_abs (by rfl) T.m_abs (by decide +kernel) (pa_cons (pv 9) pa_nil)) (pe_op op_pow pe_int pe_int) (nomark _)) pa_nil)))))
      (pss_cons (ps_set (i := 6) sc_law_purse.nd rfl (Or.inl rfl) (pe_lst pa_nil))
      (pss_cons (ps_for PassesOwn.never rfl (pi_range1 (by rfl) T.m_range (pa_cons (pv 3) pa_nil)) (pg_name (i := 7) sc_law_purse.nd rfl (Or.inl rfl))
        (pss_cons (ps_set (i := 8) sc_law_purse.nd rfl (Or.inl rfl) (pe_op op_mod (pv 7) (pe_callB (call_lenK K rfl) (by rfl) T.m_len (by decide +kernel) (pa_cons (pv 4) pa_nil))))
          (pss_one (ps_if (pt_cmpR op_gt (pe_ix (ix_listK K rfl) (pv 5) (pv 8) (fun _ _ => rfl)) pe_int (nomark _))
            (pss_cons (ps_expr (pe_bmK K rfl PySem.F.plainAttrs_list PySem.F.slot_list_append PySem.F.type_list_append mt_append (pv 6) (pa_cons (pe_op op_mod (pe_ix (ix_listK K rfl) (pv 5) (pv 8) (fun _ _ => rfl)) pe_int) pa_nil)))
              (pss_one (ps_asg (pe_op op_fdiv (pe_ix (ix_listK K rfl) (pv 5) (pv 8) (fun _ _ => rfl)) pe_int) (pg_sub (pv 5) (pv 8) set_list))))
            (pss_one (ps_expr (pe_bmK K rfl PySem.F.plainAttrs_list PySem.F.slot_list_append PySem.F.type_list_append mt_append (pv 6) (pa_cons (pe_call G_law_mixed (hr.mono (by decide)) (by rfl) T.g_law_mixed T.F_law_mixed.kp T.b_law_mixed .nil pass0 (pa_cons (pe_ix (ix_listK K rfl) (pv 4) (pv 8) (fun _ _ => rfl)) (pa_cons (pe_op op_fdiv (pv 7) (pe_callB (call_lenK K rfl) (by rfl) T.m_len (by decide +kernel) (pa_cons (pv 4) pa_nil))) pa_nil))) pa_nil))))))))
      (pss_one (ps_ret (pe_listRev K rfl rfl (by rfl) T.m_list (by rfl) T.m_reversed (pv 6))))))))), ?_⟩
    have sl' : ∀ m, m ≤ 1000000 → m < sizeLine := fun m hm => Nat.lt_of_le_of_lt hm (by decide)
    refine ⟨.ref a, rfl, .int at_, rfl, at_, rfl, 126, rfl, .int step, rfl, step, rfl, a, _, rfl, (fun z => by have := Option.some.inj z; omega), hS, fun p1 ys np1 hy ly => ?_⟩
    rw [List.length_map] at ly
    obtain ⟨cs, rfl⟩ := vI_of ys fun y hyy => by
      obtain ⟨c, _, e⟩ := List.mem_map.mp (hy y hyy)
      exact ⟨c, e.symm⟩
    rw [List.length_map] at ly
    have s1 := same_new (o := .lst (cs.map V.int)) np1
    have e1 : (L2.upd H p1 (.lst (cs.map V.int))) p1 = some (.lst (cs.map V.int)) := upd_same
    generalize L2.upd H p1 (.lst (cs.map V.int)) = H1 at s1 e1
    refine ⟨fun σ' H' => ∃ (p : Addr) (cs : List Int), σ' = [some (.ref a), some (.int at_), some (.int step), some (.int many), some (.ref p), none, none, none, none, none] ∧ Same H H' ∧ H' p = some (.lst (cs.map V.int)) ∧ cs ≠ [] ∧ cs.length ≤ 100, ?_, fun σ' H' hM => ?_⟩
    · refine ⟨.ref p1, rfl, by show 0 ≤ sizeLine; decide, fun e ne => ?_⟩
      have s2 := same_new (o := .lst []) ne
      refine ⟨.list (cs.map PyData.int), .list [], .lst (.inl (.inl (s2 _ _ e1))) (dpI cs), .lst (.inl (.inl upd_same)) .nil, shapedI cs, by decide +kernel, _, rfl, ?_⟩
      rw [eqv_nilI]
      refine ite2 (fun _ => ?_) (fun z => ?_)
      · refine ⟨.int at_, rfl, by show 1 ≤ sizeLine; decide, fun p2 n2 => ?_⟩
        exact ⟨p2, [at_], rfl, (s1.trans s2).trans (same_new n2), upd_same, by simp, by show 1 ≤ 100; decide⟩
      · exact ⟨p1, cs, rfl, s1.trans s2, s2 _ _ e1, fun h => z (decide_eq_true h), by omega⟩
    · obtain ⟨p, cs, rfl, sm, ep, hne, hl⟩ := hM
      have hpos : 0 < cs.length := List.length_pos_iff.mpr hne
      -- rests
      refine ⟨.ref p, rfl, p, rfl, ⟨_, .inl (.inl ep)⟩, fun D nD => ?_⟩
      have pD : p ≠ D := ne_of_none ep nD
      have fD : H D = none := by
        cases z : H D with
        | none => rfl
        | some o =>
          rw [sm _ _ z] at nD
          cases nD
      refine lc_it (walk_list (K := K) (a := p) (xs := cs.map V.int)) (fun j G => Same H' G ∧ ∃ rs : List Int, G D = some (.lst (rs.map V.int)) ∧ rs.length = j) ⟨same_new nD, [], upd_same, rfl⟩ (fun j G _ hW => .inl (.inl (hW.1 _ _ ep))) (fun j x G G' hj hW hY => ?_) (fun G hW => ?_)
      · obtain ⟨sG, rs, eD, lr⟩ := hW
        obtain ⟨rfl, hx⟩ := hY
        obtain ⟨c, hc, rfl⟩ := vI_at hx
        rw [List.length_map] at hj
        have hb : ∀ b : Bool, -(2 ^ 64 : Int) < (if b = true then 1 else 0 : Int) ∧ (if b = true then 1 else 0 : Int) < 2 ^ 64 := by decide
        refine ⟨rfl, lcyes ?_⟩
        refine ⟨.int c, rfl, c, rfl, .int c, rfl, c, rfl, 10, 18, rfl, rfl, ⟨by decide, by decide, by decide⟩, _, _, rfl, rfl, .inr ⟨_, rfl, _, _, rfl, rfl, .inr (hb _), _, eD, sl' _ (by rw [List.length_map]; omega), same_putN sG nD, rs ++ [_], by rw [upd_same, vI_snoc], by rw [List.length_append, lr]; rfl⟩⟩
      obtain ⟨sG, rs, eD, lr⟩ := hW
      rw [List.length_map] at lr
      refine ⟨by show 0 ≤ sizeLine; decide, fun pp npp => ?_⟩
      have ppD : D ≠ pp := ne_of_none eD npp
      have pp_ : p ≠ pp := ne_of_none (sG _ _ ep) npp
      have fpp : H pp = none := by
        cases z : H pp with
        | none => rfl
        | some o =>
          rw [sG _ _ (sm _ _ z)] at npp
          cases npp
      refine ⟨.int many, rfl, many, rfl, by omega, by omega, ?_⟩
      refine for_range (lo := 0) (n := many.toNat) (fun i σ G => Same H G ∧ G p = some (.lst (cs.map V.int)) ∧ ∃ (rs ps : List Int) (y7 y8 : Option V), σ = [some (.ref a), some (.int at_), some (.int step), some (.int many), some (.ref p), some (.ref D), some (.ref pp), y7, y8, none] ∧ G D = some (.lst (rs.map V.int)) ∧ rs.length = cs.length ∧ G pp = some (.lst (ps.map V.int)) ∧ ps.length = i) ⟨(sm.trans sG).trans (same_new npp), same_new npp _ _ (sG _ _ ep), rs, [], none, none, rfl, same_new npp _ _ eD, lr, upd_same, rfl⟩ (fun i σ G2 hi hW => ?_) (fun σ G2 hW => ?_)
      · obtain ⟨s2, ep2, rs, ps, y7, y8, rfl, eD2, lr2, epp, lp⟩ := hW
        have hlc : ((cs.map V.int).length : Int) = (cs.length : Int) := by rw [List.length_map]
        have lpos : (0 : Int) < ((cs.map V.int).length : Int) := by rw [hlc]; omega
        refine ⟨.int (0 + (i : Int)), rfl, .ref p, rfl, p, _, rfl, .inl (.inl (.inl ep2)), 0 + (i : Int), ((cs.map V.int).length : Int), rfl, rfl, lpos, ?_⟩
        have g0 := Int.emod_nonneg (0 + (i : Int)) (show ((cs.map V.int).length : Int) ≠ 0 by omega)
        have g1 := Int.emod_lt_of_pos (0 + (i : Int)) lpos
        obtain ⟨m, hg⟩ : ∃ m : Nat, (0 + (i : Int)) % ((cs.map V.int).length : Int) = (m : Int) := ⟨((0 + (i : Int)) % ((cs.map V.int).length : Int)).toNat, by omega⟩
        rw [hg] at g0 g1
        have hm : m < cs.length := by omega
        have er := List.getElem?_eq_getElem (l := rs) (i := m) (by omega)
        have ec := List.getElem?_eq_getElem (l := cs) (i := m) hm
        generalize rs[m]'(by omega) = v at er
        generalize cs[m] = c at ec
        have hi500 : i < 500 := by omega
        refine ⟨.ref D, rfl, _, rfl, D, _, _, .int v, rfl, rfl, .inl (.inl eD2), (by rw [hg]; exact atI_nat (vI_get er)), v, 0, rfl, rfl, _, rfl, ite2 (fun _ => ?_) (fun _ => ?_)⟩
        · refine ⟨.ref pp, rfl, .inl ⟨rfl, _, .inl (.inl epp)⟩, .ref D, rfl, _, rfl, D, _, _, .int v, rfl, rfl, .inl (.inl eD2), (by rw [hg]; exact atI_nat (vI_get er)), v, 1000003, rfl, rfl, (by show (0 : Int) < 1000003; decide), pp, _, _, rfl, rfl, epp, sl' _ (by rw [List.length_map]; omega), ?_⟩
          have eD3 : (L2.upd G2 pp (.lst (ps.map V.int ++ [.int (v % 1000003)]))) D = some (.lst (rs.map V.int)) := by rw [upd_ne ppD]; exact eD2
          refine ⟨.ref D, rfl, _, rfl, D, _, _, .int v, rfl, rfl, .inl (.inl eD3), (by rw [hg]; exact atI_nat (vI_get er)), v, 1000003, rfl, rfl, ⟨by decide, by decide⟩, .ref D, rfl, _, rfl, D, _, _, m, rfl, rfl, eD3, ?_, same_putN (same_putN s2 fpp) fD, ?_, rs.set m (v / 1000003), ps ++ [v % 1000003], _, _, rfl, ?_, by rw [List.length_set]; exact lr2, ?_, by rw [List.length_append, lp]; rfl⟩
          · rw [hg]
            unfold ixN
            rw [List.length_map]
            simp
            omega
          · rw [upd_ne pD, upd_ne pp_]
            exact ep2
          · rw [upd_same, List.map_set]
          · rw [upd_ne ppD.symm, upd_same, vI_snoc]
        · refine ⟨.ref pp, rfl, .inl ⟨rfl, _, .inl (.inl epp)⟩, .ref p, rfl, _, rfl, p, _, _, .int c, rfl, rfl, .inl (.inl ep2), (by rw [hg]; exact atI_nat (vI_get ec)), .int (0 + (i : Int)), rfl, .ref p, rfl, p, _, rfl, .inl (.inl (.inl ep2)), 0 + (i : Int), ((cs.map V.int).length : Int), rfl, rfl, ⟨lpos, by rw [hlc]; omega⟩, c, _, rfl, fun g2 => ⟨pp, _, _, rfl, rfl, epp, sl' _ (by rw [List.length_map]; omega), same_putN s2 fpp, ?_, rs, ps ++ [g2], _, _, rfl, ?_, lr2, ?_, by rw [List.length_append, lp]; rfl⟩⟩
          · rw [upd_ne pp_]
            exact ep2
          · rw [upd_ne ppD]
            exact eD2
          · rw [upd_same, vI_snoc]
      · obtain ⟨s2, ep2, rs, ps, y7, y8, rfl, eD2, lr2, epp, lp⟩ := hW
        refine ⟨.ref pp, rfl, pp, _, rfl, .inl (.inl epp), fun q6 n6 => ?_⟩
        have f6 : H q6 = none := by
          cases z : H q6 with
          | none => rfl
          | some o =>
            rw [s2 _ _ z] at n6
            cases n6
        refine q _ q6 (s2.trans (same_new n6)) f6 ⟨ps.reverse, ?_, by rw [List.length_reverse]; omega⟩
        rw [upd_same, List.map_reverse]
/-! ### _law_next -/
def sp_law_next : Sp := fun vs H Q _ => ∃ r : Addr, vs = [.ref r] ∧ RowAt H r ∧ ∀ H' g, Off r H H' → RowAt H' r → Q (.int g) H'
theorem ok_law_next (T : TX K mg) : FnOk P w K mg base CX0 1 T.a_law_next T.fd_law_next ["purse"] sp_law_next := by
  refine T.F_law_next.ok sc_law_next (fun vs H Q E h => ?_) (fun cdv A outer s H vs Q E hr h => ?_)
  · obtain ⟨r, rfl, _⟩ := h
    rfl
  · obtain ⟨r, rfl, ⟨ns, er, ln⟩, q⟩ := h
    refine ⟨_, (pss_cons (ps_if (pt_cmpR (op_eqD hr.units) (pv 0) (pe_lst pa_nil) (nomark _))
        (pss_one (ps_ret pe_int))
        pss_nil)
      (pss_one (ps_ret (pe_bm0K K rfl PySem.F.plainAttrs_list PySem.F.slot_list_pop PySem.F.type_list_pop mt_pop (pv 0))))), ?_⟩
    refine ⟨.ref r, rfl, by show 0 ≤ sizeLine; decide, fun e ne => ?_⟩
    have s2 := same_new (o := .lst []) ne
    have re : r ≠ e := ne_of_none er ne
    refine ⟨.list (ns.map PyData.int), .list [], .lst (.inl (.inl (s2 _ _ er))) (dpI ns), .lst (.inl (.inl upd_same)) .nil, shapedI ns, by decide +kernel, _, rfl, ?_⟩
    rw [eqv_nilI]
    refine ite2 (fun _ => ?_) (fun z => ?_)
    · exact q _ 0 (Off.of s2) ⟨ns, s2 _ _ er, ln⟩
    · have hne : ns ≠ [] := fun h => z (decide_eq_true h)
      have hpos := List.length_pos_iff.mpr hne
      have e1 := List.getElem?_eq_getElem (l := ns) (i := ns.length - 1) (by omega)
      generalize ns[ns.length - 1]'(by omega) = y at e1
      refine ⟨.ref r, rfl, .inl ⟨rfl, _, .inl (.inl (s2 _ _ er))⟩, r, _, .int y, rfl, rfl, s2 _ _ er, by rw [List.length_map]; exact vI_get e1, ?_⟩
      refine q _ y ((Off.of s2).trans Off.put) ⟨ns.dropLast, ?_, ?_⟩
      · rw [upd_same, List.map_dropLast]
      · rw [List.length_dropLast]
        omega
end
end LH

namespace LH
open PySem PySem.Spec PyProof.Rows L2
/-! ### machines in the heap -/
abbrev vi (ns : List Nat) : List V := ns.map fun (n : Nat) => V.int (n : Int)
theorem vi_snoc (ys : List Nat) (c : Nat) : vi ys ++ [V.int (c : Int)] = vi (ys ++ [c]) := by
  show _ = List.map _ (ys ++ [c])
  rw [List.map_append]
  rfl
abbrev vr (as : List Addr) : List V := as.map V.ref
theorem vr_snoc (ys : List Addr) (c : Addr) : vr ys ++ [V.ref c] = vr (ys ++ [c]) := by
  show _ = List.map _ (ys ++ [c])
  rw [List.map_append]
  rfl
structure Mach where
  z : Str
  rows : List (List Nat)
  ends : List Nat
structure Mach.Ok (M : Mach) : Prop where
  let_ : IsLet M.z
  many : 1 ≤ M.rows.length
  row : ∀ r ∈ M.rows, r.length = M.z.length ∧ ∀ t ∈ r, t < M.rows.length
  endl : ∀ e ∈ M.ends, e < M.rows.length
  rise : M.ends.Pairwise (· < ·)
def RowsAt (H : Hp) (as : List Addr) (rows : List (List Nat)) : Prop := as.length = rows.length ∧ ∀ (i : Nat) (a : Addr) (row : List Nat), as[i]? = some a → rows[i]? = some row → H a = some (.tup (vi row))
def MachAt (H : Hp) (p : Addr) (M : Mach) : Prop := ∃ t e as, H p = some (.tup [.str M.z, .ref t, .ref e]) ∧ H t = some (.tup (vr as)) ∧ RowsAt H as M.rows ∧ H e = some (.tup (vi M.ends))
/-- tuples stand -/
def Tups (H H' : Hp) : Prop := ∀ b xs, H b = some (.tup xs) → H' b = some (.tup xs)
theorem Tups.refl (H : Hp) : Tups H H := fun _ _ h => h
theorem Tups.trans {H H1 H2 : Hp} (a : Tups H H1) (b : Tups H1 H2) : Tups H H2 := fun c o h => b c o (a c o h)
theorem Tups.same {H H' : Hp} (a : Same H H') : Tups H H' := fun c _ h => a c _ h
theorem Tups.off {r : Addr} {H H' : Hp} (R : RowAt H r) (a : Off r H H') : Tups H H' := fun c _ h => a c _ (R.neT h) h
theorem Tups.new {p : Addr} {H : Hp} {o : HO} (h : H p = none) : Tups H (upd H p o) := Tups.same (same_new h)
theorem Tups.lst {p : Addr} {H : Hp} {xs : List V} {o : HO} (h : H p = some (.lst xs)) : Tups H (upd H p o) := fun c ys e => by
  rw [upd_ne (ne_of e h (by intro z; cases z))]
  exact e
theorem RowsAt.mono {H H' : Hp} {as : List Addr} {rows : List (List Nat)} (t : Tups H H') (h : RowsAt H as rows) : RowsAt H' as rows := ⟨h.1, fun i a row x y => t _ _ (h.2 i a row x y)⟩
theorem MachAt.mono {H H' : Hp} {p : Addr} {M : Mach} (t : Tups H H') (h : MachAt H p M) : MachAt H' p M := by
  obtain ⟨a, b, c, h1, h2, h3, h4⟩ := h
  exact ⟨a, b, c, t _ _ h1, t _ _ h2, h3.mono t, t _ _ h4⟩
theorem RowsAt.snoc {H : Hp} {as : List Addr} {rows : List (List Nat)} {a : Addr} {row : List Nat} (h : RowsAt H as rows) (ha : H a = some (.tup (vi row))) : RowsAt H (as ++ [a]) (rows ++ [row]) := by
  refine ⟨by rw [List.length_append, List.length_append, h.1]; rfl, fun i b r x y => ?_⟩
  by_cases hi : i < as.length
  · rw [List.getElem?_append_left hi] at x
    rw [List.getElem?_append_left (by rw [← h.1]; exact hi)] at y
    exact h.2 i b r x y
  · rw [List.getElem?_append_right (by omega)] at x
    rw [List.getElem?_append_right (by rw [← h.1]; omega), ← h.1] at y
    have e : i - as.length = 0 := by
      cases q : i - as.length with
      | zero => rfl
      | succ k =>
        rw [q] at x
        simp at x
    rw [e] at x y
    cases x
    cases y
    exact ha
theorem mem_snoc {α : Type} {p : α → Prop} {xs : List α} {x : α} (h : ∀ y ∈ xs, p y) (hx : p x) : ∀ y ∈ xs ++ [x], p y := fun y hy => by
  rcases List.mem_append.mp hy with q | q
  · exact h y q
  · rw [List.mem_singleton.mp q]
    exact hx
section
variable {P : Program} {w : World} {K : PySem.W.Frag} {mg : Str → Option Value} {base : Heap}
end
end LH

namespace LH
open PySem PySem.Spec PyProof.Rows L2
/-! ### what a machine has -/
def Mach.step (M : Mach) (s c : Nat) : Nat := (M.rows.getD s []).getD (M.z.cps.toList.idxOf c) 0
def Mach.run (M : Mach) (cs : List Nat) : Nat := cs.foldl M.step 0
def Mach.has (M : Mach) (cs : List Nat) : Bool := decide (M.run cs ∈ M.ends)
theorem inV_vi (n : Nat) : ∀ ns : List Nat, inV (.int (n : Int)) (vi ns) = decide (n ∈ ns)
  | [] => rfl
  | a :: r => by
    show (((a : Int) == (n : Int)) || inV (.int (n : Int)) (vi r)) = _
    rw [inV_vi n r]
    by_cases e : a = n
    · subst e
      simp
    · have e1 : ((a : Int) == (n : Int)) = false := beq_eq_false_iff_ne.mpr (by omega)
      have e2 : ¬ n = a := fun q => e q.symm
      rw [e1]
      simp [e2]
theorem flat_vi : ∀ ns : List Nat, (vi ns).all flatV = true
  | [] => rfl
  | _ :: r => flat_vi r
theorem idx_lt {z : Str} {c : Nat} (h : c ∈ z.cps.toList) : z.cps.toList.idxOf c < z.length := by
  have := List.idxOf_lt_length_iff.mpr h
  rw [Array.length_toList] at this
  exact this
theorem Mach.Ok.row_at {M : Mach} (k : M.Ok) {s : Nat} (h : s < M.rows.length) : ∃ row, M.rows[s]? = some row ∧ M.rows.getD s [] = row ∧ row.length = M.z.length ∧ ∀ t ∈ row, t < M.rows.length := by
  refine ⟨M.rows[s], List.getElem?_eq_getElem h, ?_, k.row _ (List.getElem_mem h)⟩
  rw [List.getD_eq_getElem?_getD, List.getElem?_eq_getElem h]
  rfl
theorem Mach.Ok.step_at {M : Mach} (k : M.Ok) {s c : Nat} (h : s < M.rows.length) (hc : c ∈ M.z.cps.toList) : ∃ row, M.rows[s]? = some row ∧ row[M.z.cps.toList.idxOf c]? = some (M.step s c) ∧ M.step s c < M.rows.length := by
  obtain ⟨row, e, g, l, t⟩ := k.row_at h
  have hi : M.z.cps.toList.idxOf c < row.length := by
    rw [l]
    exact idx_lt hc
  have es : M.step s c = row[M.z.cps.toList.idxOf c] := by
    unfold Mach.step
    rw [g, List.getD_eq_getElem?_getD, List.getElem?_eq_getElem hi]
    rfl
  refine ⟨row, e, ?_, ?_⟩
  · rw [es, List.getElem?_eq_getElem hi]
  · rw [es]
    exact t _ (List.getElem_mem hi)
theorem Mach.Ok.run_lt {M : Mach} (k : M.Ok) : ∀ (cs : List Nat) (s : Nat), s < M.rows.length → (∀ c ∈ cs, c ∈ M.z.cps.toList) → cs.foldl M.step s < M.rows.length
  | [], _, h, _ => h
  | c :: r, s, h, hc => by
    obtain ⟨_, _, _, q⟩ := k.step_at h (hc c (List.mem_cons_self ..))
    exact Mach.Ok.run_lt k r _ q fun d hd => hc d (List.mem_cons_of_mem _ hd)
theorem run_snoc (M : Mach) {cs : List Nat} {i c : Nat} (h : cs[i]? = some c) : M.run (cs.take (i + 1)) = M.step (M.run (cs.take i)) c := by
  rw [List.take_add_one, h]
  unfold Mach.run
  rw [List.foldl_append]
  rfl
theorem RowsAt.get {H : Hp} {as : List Addr} {rows : List (List Nat)} {s : Nat} {row : List Nat} (h : RowsAt H as rows) (e : rows[s]? = some row) : ∃ a, as[s]? = some a ∧ (vr as)[s]? = some (.ref a) ∧ H a = some (.tup (vi row)) := by
  have hs : s < as.length := by
    rw [h.1]
    exact (List.getElem?_eq_some_iff.mp e).1
  refine ⟨as[s], List.getElem?_eq_getElem hs, ?_, h.2 s _ _ (List.getElem?_eq_getElem hs) e⟩
  rw [List.getElem?_map, List.getElem?_eq_getElem hs]
  rfl
end LH

namespace LH
open PySem PySem.Spec PyProof.Rows L2
/-! ### name = {k: v for ..}; walks of pairs by a K of their own -/
abbrev InBlk (X : Cx) (scope : Scope) (J : Cx → Prop) : Prop := ∀ (s : Shared) (H : Hp) (C : Addr) (cl : List (Str × Addr)) (fp : List Addr), J (X.blk s H scope (compEnvC scope cl C X.env) fp)
section
variable {X : Cx}
theorem ps_setDc {i : Nat} {y : Str} {py dp sp : Pos} {kx vx tg it : Expr} {ifs : List Expr} {scope : Scope} {own : List (Str × Nat)} {wi : TI} {g : TG} {tt : TT} {tk tv : TE} (calm : X.calm = true) (nd : X.N.Nodup) (hy : X.N[i]? = some y) (loc : X.env.scope.names.lookup y = some .local)
    (sw : swapsWith (.DictComp kx vx [⟨tg, it, ifs, 0⟩] scope dp) (some (.Name y py)) sp.line X.env = pure true) (hi : PI X tg it wi) (ok : BlkOk X.N X.env.scope scope own) (hg : InBlk X scope fun Y => PG Y tg g) (ht : InBlk X scope fun Y => PTs Y ifs tt) (hk : InBlk X scope fun Y => PE Y kx tk) (hv : InBlk X scope fun Y => PE Y vx tv)
    (hf : ∀ x, foldedSetIterable it X.env x = pure x := by intro _; rfl) : PS X (.Assign [.Name y py] (.DictComp kx vx [⟨tg, it, ifs, 0⟩] scope dp) sp) (tAsg (tDc wi g tt tk tv (own.map (·.2))) (gName i)) := by
  refine ⟨fun pins s σ H D I q0 => ?_⟩
  have q1 : tDc wi g tt tk tv (own.map (·.2)) σ H (fun x H1 => gName i x σ H1 D.nx) := q0
  rw [exec_Assign_Name_used _ _ _ _ sw]
  refine wpAny_bind (wpAny_standAt (wpAny_bind ?_))
  show wpAny _ X.A (do let _ ← comprehension (.DictComp kx vx [⟨tg, it, ifs, 0⟩] scope dp) scope X.env (firstIterPos [⟨tg, it, ifs, 0⟩] dp) newDict false (eval it X.env) (some (assign (.Name y py) X.env))) _ _ s
  refine wpAny_bind (thn (dc_core (Qf := fun _ s' => SP X pins D .next s') calm nd I hi ok hg ht hk hv hf q1 fun L C s' m H' I' q hn f => ?_) fun _ s' z => wpAny_pure (wpAny_pure z))
  show wpAny _ _ (assign (.Name y py) X.env (V.ref L |> fun _ => Value.ref L)) _ _ _
  refine wpAny_assign_Name (store_ok2 (v := V.ref L) I' nd hy (.inl loc) rfl (fun s2 I2 st => ?_) (.inr loc))
  obtain ⟨a, sb, ha⟩ := st
  have na : C ≠ a := by rcases ha with z | z; (· rw [z]; exact f.2.1); (· exact fun e => f.2.2.2.2.1 y a z e.symm)
  exact ⟨m, hn.sameBut sb na, fun h3 sb3 => ⟨_, H', I2.turned (t' := s2.toks) (fun b o hb e => (sb3.2 b hb).trans e) f.1 f.2.1 f.2.2.2.1 f.2.2.2.2.1 f.2.2.2.2.2, q⟩⟩
theorem sw_trueD {kx vx : Expr} {gs : List Comprehension} {scope : Scope} {pos py : Pos} {y : Str} {l : Nat} {env : Env} (hk : env.scope.kind = .function) (hy : env.scope.names.lookup y = some .local) (hl : (py.line == pos.line) = true) (ha : (scope.names.any fun (n, k) => n == y && (k == .local || k == .cell)) = false) :
    swapsWith (.DictComp kx vx gs scope pos) (some (.Name y py)) l env = pure true := by
  have b : env.blockKind = .function := by rw [Env.blockKind, hk]; rfl
  have k : env.kindOf y = some .local := hy
  unfold swapsWith
  simp only [b, k, ha, Expr.pos, hl]
  rfl
variable (K : PySem.W.Frag) (hK : X.K = K)
include hK
theorem pi_enumK {e : Expr} {ta : TA} {p pos tp : Pos} {elts : List Expr} {kk : Nat} (hg : Gl X "enumerate") (hm : X.mg "enumerate" = none) (ha : PA X [e] ta) (hs : starEach [e] X.env = [(false, eval e X.env)] := by rfl) : PI X (.Tuple elts kk tp) (.Call (.Name "enumerate" p) [e] [] pos) (iEnum K ta) := by subst hK; exact pi_enum hg hm ha hs
end
/-! ### walks of dicts of whole numbers -/
abbrev dk (g : List Nat) : List (Key × V) := g.map fun (s : Nat) => (Sum.inl (s : Int), V.bl true)
theorem valV_dk (s : Nat) : ∀ g : List Nat, valV (dk g) (Sum.inl (s : Int) : Key) = if s ∈ g then some (.bl true) else none
  | [] => rfl
  | a :: r => by
    show valV ((Sum.inl (a : Int), V.bl true) :: dk r) (Sum.inl (s : Int) : Key) = _
    by_cases e : a = s
    · subst e
      rw [valV_pos rfl, if_pos (List.mem_cons_self ..)]
    · rw [valV_neg (fun q => e (by have := Sum.inl.inj q; omega)), valV_dk s r]
      have : (s ∈ a :: r) ↔ s ∈ r := ⟨fun h => by
        rcases List.mem_cons.mp h with z | z
        · exact absurd z.symm e
        · exact z, fun h => List.mem_cons_of_mem _ h⟩
      by_cases h : s ∈ r
      · rw [if_pos h, if_pos (this.mpr h)]
      · rw [if_neg h, if_neg (fun z => h (this.mp z))]
theorem putK_dk {s : Nat} {g : List Nat} (h : s ∉ g) : putK (dk g) (Sum.inl (s : Int) : Key) (.bl true) = dk (g ++ [s]) := by
  unfold putK
  rw [valV_any, valV_dk, if_neg h, if_neg (by decide)]
  show _ = List.map _ (g ++ [s])
  rw [List.map_append]
  rfl
theorem putK_dk_in {s : Nat} {g : List Nat} (h : s ∈ g) : putK (dk g) (Sum.inl (s : Int) : Key) (.bl true) = dk g := by
  unfold putK
  rw [valV_any, valV_dk, if_pos h, if_pos (by decide)]
  show List.map _ (List.map _ g) = List.map _ g
  rw [List.map_map]
  refine List.map_congr_left fun a _ => ?_
  show (if (Sum.inl (a : Int) : Key) = Sum.inl (s : Int) then ((Sum.inl (a : Int) : Key), V.bl true) else (Sum.inl (a : Int), V.bl true)) = _
  split <;> rfl
theorem dropK_dk (s : Nat) (g : List Nat) : dropK (dk g) (Sum.inl (s : Int) : Key) = dk (g.filter fun a => decide (a ≠ s)) := by
  unfold dropK
  show List.filter _ (List.map _ g) = List.map _ (g.filter _)
  rw [List.filter_map]
  congr 1
  refine List.filter_congr fun a _ => ?_
  show decide ((Sum.inl (a : Int) : Key) ≠ Sum.inl (s : Int)) = decide (a ≠ s)
  by_cases e : a = s
  · subst e
    simp
  · have h2 : ¬ ((Sum.inl (a : Int) : Key) = Sum.inl (s : Int)) := fun q => e (by have := Sum.inl.inj q; omega)
    simp only [ne_eq, h2, e, not_false_eq_true, decide_true]
theorem keys_dk (g : List Nat) : (dk g).map (fun kv => kV kv.1) = vi g := by
  show List.map _ (List.map _ g) = _
  rw [List.map_map]
  rfl
theorem dk_get {g : List Nat} {i : Nat} {k : Key} {v : V} (h : (dk g)[i]? = some (k, v)) : ∃ s, g[i]? = some s ∧ k = Sum.inl (s : Int) ∧ v = .bl true := by
  rw [List.getElem?_map] at h
  cases e : g[i]? with
  | none =>
    rw [e] at h
    cases h
  | some s =>
    rw [e] at h
    cases h
    exact ⟨s, rfl, rfl, rfl⟩
/-- a dict comprehension over anything that walks: Pv by the turn and the heap (the new dict at D within) -/
theorem dc_it {J : It} {n : Nat} {G : Hp → Prop} {Y : Nat → Hp → V → Hp → Prop} (w : Walk J n G Y) {g : TG} {tt : TT} {tk tv : TE} {vs : List Nat} {σ : L2.St} {H1 : Hp} {D : Addr} {Qd : Hp → Prop} (Pv : Nat → Hp → Prop) (p0 : Pv 0 (upd H1 D (.dK []))) (pG : ∀ i H, i ≤ n → Pv i H → G H)
    (turn : ∀ i x H H', i < n → Pv i H → Y i H x H' → g x (wipe σ vs) H' fun σ2 H2 => wipe σ2 vs = wipe σ vs ∧ tt σ2 H2 fun b H3 => if b = true then tk σ2 H3 fun y H4 => tv σ2 H4 fun z H5 => ∃ kvs k, y = kV k ∧ H5 D = some (.dK kvs) ∧ kvs.length < sizeLine ∧ Pv (i + 1) (upd H5 D (.dK (putK kvs k z))) else Pv (i + 1) H3) (last : ∀ H, Pv n H → Qd H) :
    ∃ W : Nat → Nat → Hp → Prop, (∃ m, W 0 m (upd H1 D (.dK []))) ∧ ∀ i m H, W i m H → (J.stop i H ∧ Qd H) ∨ (J.go i H ∧ ∃ Nx : Hp → Prop, (∀ H', Nx H' → ∃ m', m' < m ∧ W (i + 1) m' H') ∧ ∀ x H', J.yld i H x H' → g x (wipe σ vs) H' fun σ2 H2 => wipe σ2 vs = wipe σ vs ∧ tt σ2 H2 fun b H3 =>
      if b = true then tk σ2 H3 fun y H4 => tv σ2 H4 fun z H5 => ∃ kvs k, y = kV k ∧ H5 D = some (.dK kvs) ∧ kvs.length < sizeLine ∧ Nx (upd H5 D (.dK (putK kvs k z))) else Nx H3) := by
  refine ⟨fun i m H => m + i = n ∧ Pv i H, ⟨n, rfl, p0⟩, fun i m H z => ?_⟩
  obtain ⟨e, p⟩ := z
  have q := pG i H (by omega) p
  cases m with
  | zero =>
    have e' : i = n := by omega
    subst e'
    exact Or.inl ⟨w.stops H q, last H p⟩
  | succ m => exact Or.inr ⟨w.goes i H (by omega) q, Pv (i + 1), fun H' p' => ⟨m, Nat.lt_succ_self m, by omega, p'⟩, fun x H' y => turn i x H H' (by omega) p (w.yields i H x H' (by omega) q y)⟩
/-! ### counting -/
theorem len_le_of_sub {α : Type} [DecidableEq α] : ∀ {xs ys : List α}, xs.Nodup → (∀ x ∈ xs, x ∈ ys) → xs.length ≤ ys.length
  | [], _, _, _ => Nat.zero_le _
  | x :: xs, ys, nd, h => by
    have hx := h x (List.mem_cons_self ..)
    have nd' := List.nodup_cons.mp nd
    have ih := len_le_of_sub (xs := xs) (ys := ys.erase x) nd'.2 fun y hy => by
      have hne : y ≠ x := fun e => nd'.1 (e ▸ hy)
      exact (List.mem_erase_of_ne hne).mpr (h y (List.mem_cons_of_mem _ hy))
    rw [List.length_erase_of_mem hx] at ih
    have := List.length_pos_of_mem hx
    show xs.length + 1 ≤ ys.length
    omega
theorem all_of_len {xs ys : List Nat} (nx : xs.Nodup) (h : ∀ x ∈ xs, x ∈ ys) (l : ys.length ≤ xs.length) : ∀ y ∈ ys, y ∈ xs := fun y hy => by
  by_cases q : y ∈ xs
  · exact q
  · have := len_le_of_sub (xs := y :: xs) (ys := ys) (List.nodup_cons.mpr ⟨q, nx⟩) fun z hz => by
      rcases List.mem_cons.mp hz with rfl | hz
      · exact hy
      · exact h z hz
    have : xs.length + 1 ≤ ys.length := this
    omega
end LH

namespace LH
open PySem PySem.Spec PyProof.Rows L2 NdefX LamX
/-! ### captured cells, tracked: so that a made function may be handed on -/
def CellO (c : Addr) (o : Obj) : HO := .ext fun h => h.get? c = some o
structure CellsT (H : Hp) (cl : List (Str × Addr)) (fr : List Str) (ws : List (Option V)) : Prop where
  len : ws.length = fr.length
  inj : ∀ x y c, cl.lookup x = some c → cl.lookup y = some c → x = y
  all : ∀ y c, cl.lookup y = some c → ∃ o v, H c = some (CellO c o) ∧ o.data = .cell v
  has : ∀ (i : Nat) (y : Str), fr[i]? = some y → ∃ c, cl.lookup y = some c ∧ ∀ v, ws[i]? = some (some v) → ∃ o u, H c = some (CellO c o) ∧ o.data = .cell (some u) ∧ RelV v u
theorem CellsT.same {H H' : Hp} {cl : List (Str × Addr)} {fr : List Str} {ws : List (Option V)} (C : CellsT H cl fr ws) (e : ∀ b o, H b = some (CellO b o) → H' b = some (CellO b o)) : CellsT H' cl fr ws := by
  refine ⟨C.len, C.inj, fun y c h => ?_, fun i y h => ?_⟩
  · obtain ⟨o, v, a, b⟩ := C.all y c h
    exact ⟨o, v, e _ _ a, b⟩
  · obtain ⟨c, a, b⟩ := C.has i y h
    refine ⟨c, a, fun v hv => ?_⟩
    obtain ⟨o, u, x, z⟩ := b v hv
    exact ⟨o, u, e _ _ x, z⟩
abbrev inC (cl : List (Str × Addr)) (b : Addr) : Prop := ∃ y, cl.lookup y = some b
open Classical in
noncomputable def hide (S : Addr → Prop) (H : Hp) : Hp := fun b => if S b then none else H b
open Classical in
noncomputable def back (S : Addr → Prop) (H H' : Hp) : Hp := fun b => if S b then H b else H' b
section
variable {S : Addr → Prop} {H H' : Hp} {b : Addr}
theorem hide_in (h : S b) : hide S H b = none := by unfold hide; rw [if_pos h]
theorem hide_out (h : ¬ S b) : hide S H b = H b := by unfold hide; rw [if_neg h]
theorem hide_some {o : HO} (h : hide S H b = some o) : ¬ S b ∧ H b = some o := by
  by_cases z : S b
  · rw [hide_in z] at h
    cases h
  · rw [hide_out z] at h
    exact ⟨z, h⟩
theorem back_in (h : S b) : back S H H' b = H b := by unfold back; rw [if_pos h]
theorem back_out (h : ¬ S b) : back S H H' b = H' b := by unfold back; rw [if_neg h]
end
theorem cellO_at {P : Program} {w : World} {H : Hp} {h : Heap} {c : Addr} {o : Obj} (hok : HOk P w H h) (e : H c = some (CellO c o)) : h.get? c = some o := (hok c _ e).1
theorem cellO_ok {P : Program} {w : World} {H : Hp} {h : Heap} {c : Addr} {o : Obj} (e : h.get? c = some o) : ObjOk P w H h c (CellO c o) := ⟨e, ⟨o, e⟩, fun h1 h2 a k => k o a⟩
/-- what is hidden is no own dict, no tuple -/
theorem hok_hide {P : Program} {w : World} {S : Addr → Prop} {H : Hp} {h : Heap} (hok : HOk P w H h) (ext : ∀ b, S b → ∃ o, H b = some (CellO b o)) : HOk P w (hide S H) h := fun a o e => by
  obtain ⟨_, e⟩ := hide_some e
  refine (hok a o e).stay (fun _ _ _ q => q) (fun b q => ?_) fun b xs q => ?_
  · rw [hide_out (fun z => by
      obtain ⟨o, y⟩ := ext b z
      rw [q] at y
      cases y)]
    exact q
  · rw [hide_out (fun z => by
      obtain ⟨o, y⟩ := ext b z
      rw [q] at y
      cases y)]
    exact q
section
variable {P : Program} {w : World} {K : PySem.W.Frag} {mg : Str → Option Value} {base : Heap} {k : Nat} {f : Addr} {F : NF} {ps fr : List Str} {sp : List (Option V) → Sp} {A : Around} {outer : List Env} {s : Shared} {H : Hp} {us : List Value} {vs : List V} {ws : List (Option V)} {Q : VK} {E : XK}
/-- a made function called where its cells are tracked -/
theorem run_cell (Fn : NOk P w K mg base CX0 k f F ps fr sp) (hr : Room k A) (e0 : Env0 P w K mg base A outer s H) (hf : H f = some (FnO f F)) (hc : H F.c = some (CodeO F.c F.qual)) (C : CellsT H F.cl fr ws) (r : Vals vs us) (q : sp ws vs (hide (inC F.cl) H) (fun v H' => (∀ b, inC F.cl b → H' b = none) → Q v (back (inC F.cl) H H')) E) :
    codeAny (model P w) A (.call (.ref f) ⟨us, []⟩) (CR CX0 outer P w H s Q E) s := by
  have ext : ∀ b, inC F.cl b → ∃ o, H b = some (CellO b o) := fun b ⟨y, hy⟩ => by
    obtain ⟨o, v, z, _⟩ := C.all y b hy
    exact ⟨o, z⟩
  have cellD : ∀ b, inC F.cl b → ∃ o v, H b = some (CellO b o) ∧ s.heap.get? b = some o ∧ o.data = .cell v := fun b ⟨y, hy⟩ => by
    obtain ⟨o, v, z, d⟩ := C.all y b hy
    exact ⟨o, v, z, cellO_at e0.hok z, d⟩
  have nf : ¬ inC F.cl f := fun z => by
    obtain ⟨o, v, _, g, d⟩ := cellD f z
    obtain ⟨od, sl, doc, pm, ctv, ho⟩ := fnO_at e0.hok hf
    rw [ho] at g
    cases g
    cases d
  have nc : ¬ inC F.cl F.c := fun z => by
    obtain ⟨o, v, _, g, d⟩ := cellD _ z
    have : HOk P w H s.heap := e0.hok
    obtain ⟨oc, vs', t, h1, h2, _⟩ := (this _ _ hc).1
    rw [h1] at g
    cases g
    rw [h2] at d
    cases d
  have e1 : Env0 P w K mg base A outer s (hide (inC F.cl) H) := ⟨e0.frames, e0.mod, fun b o hb => ⟨(e0.bs b o hb).1, by
      by_cases z : inC F.cl b
      · exact hide_in z
      · rw [hide_out z]; exact (e0.bs b o hb).2⟩, e0.bsz, e0.funs, fun b hb => by
      by_cases z : inC F.cl b
      · exact hide_in z
      · rw [hide_out z]; exact e0.frf b hb, hok_hide e0.hok ext, e0.bare⟩
  have CA : CellsAt F.cl fr ws s.heap (hide (inC F.cl) H) := by
    refine ⟨C.len, fun y c hy => ⟨hide_in ⟨y, hy⟩, ?_⟩, C.inj, fun i y hy => ?_⟩
    · obtain ⟨o, v, _, g, d⟩ := cellD c ⟨y, hy⟩
      exact ⟨v, o, g, d⟩
    · obtain ⟨c, hc, hv⟩ := C.has i y hy
      refine ⟨c, hc, fun v ev => ?_⟩
      obtain ⟨o, u, z, d, rv⟩ := hv v ev
      exact ⟨u, rv, o, cellO_at e0.hok z, d⟩
  refine codeAny_mono (Fn.run A outer s (hide (inC F.cl) H) us vs ws _ E hr e1 (by rw [hide_out nf]; exact hf) (by rw [hide_out nc]; exact hc) CA r q) fun res s' hq => ?_
  cases res with
  | error e => exact hq
  | ok fl =>
    cases fl with
    | next => exact hq
    | brk => exact hq
    | cont => exact hq
    | ret u =>
      obtain ⟨v, H1, os, bare, un, hok, rv, q1⟩ := hq
      have out : ∀ b, H b = none → ¬ inC F.cl b := fun b n z => by
        obtain ⟨o, y⟩ := ext b z
        rw [n] at y
        cases y
      have outx : ∀ b x, H b = some x → (∀ o, x ≠ CellO b o) → ¬ inC F.cl b := fun b x e n z => by
        obtain ⟨o, y⟩ := ext b z
        rw [e] at y
        exact n o (Option.some.inj y)
      have h1n : ∀ b, inC F.cl b → H1 b = none := fun b z => by
        obtain ⟨o, v, _, g, _⟩ := cellD b z
        exact un.free b o g (hide_in z) (by simp)
      refine ⟨v, back (inC F.cl) H H1, os, bare, ⟨fun b o e n hb hx => ?_, fun b o e n hb hx => ?_, fun b o e n hx => ?_, un.there, fun b xs e => ?_, fun b o u e => ?_, fun b ps e => ?_⟩, fun a o e => ?_, rv, q1 h1n⟩
      · exact un.keep b o e (by rw [hide_out (out b n)]; exact n) hb hx
      · exact un.slot b o e (by rw [hide_out (out b n)]; exact n) hb hx
      · rw [back_out (out b n)]
        exact un.free b o e (by rw [hide_out (out b n)]; exact n) hx
      · have z := outx b _ e (by intro o y; cases y)
        rw [back_out z]
        exact un.tups b xs (by rw [hide_out z]; exact e)
      · have z := outx b _ e (by intro o y; cases y)
        rw [back_out z]
        exact un.frzs b o u (by rw [hide_out z]; exact e)
      · have z := outx b _ e (by intro o y; cases y)
        rw [back_out z]
        exact un.tbls b ps (by rw [hide_out z]; exact e)
      · by_cases z : inC F.cl a
        · rw [back_in z] at e
          obtain ⟨o', v', y, g, _⟩ := cellD a z
          rw [y] at e
          cases e
          refine cellO_ok (un.keep a o' g (hide_in z) (fun hb => ?_) (by simp))
          have := e0.frf a hb
          rw [y] at this
          cases this
        · rw [back_out z] at e
          refine (hok a o e).stay (fun _ _ _ q => q) (fun b q => ?_) fun b xs q => ?_
          · rw [back_out (fun y => by rw [h1n b y] at q; cases q)]
            exact q
          · rw [back_out (fun y => by rw [h1n b y] at q; cases q)]
            exact q
end
open Classical in
/-- the cells laid open: each by the object that stands there -/
noncomputable def lay (S : Addr → Prop) (h : Heap) (H : Hp) : Hp := fun b => if S b then (h.get? b).map (CellO b) else H b
theorem lay_out {S : Addr → Prop} {h : Heap} {H : Hp} {b : Addr} (z : ¬ S b) : lay S h H b = H b := by unfold lay; rw [if_neg z]
theorem lay_in {S : Addr → Prop} {h : Heap} {H : Hp} {b : Addr} {o : Obj} (z : S b) (g : h.get? b = some o) : lay S h H b = some (CellO b o) := by unfold lay; rw [if_pos z, g]; rfl
section
variable {P : Program} {w : World} {K : PySem.W.Frag} {mg : Str → Option Value} {base : Heap} {k : Nat} {f : Addr} {fd : FuncData} {cl : List (Str × Addr)} {ps fr : List Str} {sp : Sp} {A : Around} {outer : List Env} {s : Shared} {H : Hp} {args : Args} {us : List Value} {vs : List V} {ws : List (Option V)} {Q : VK} {E : XK}
/-- a def called with the caller's cells tracked -/
theorem run_track (F : FnOk P w K mg base CX0 k f fd ps sp) (hr : Room k A) (e0 : Env0 P w K mg base A outer s H) (hb : BindsTo s fd args (ps.zip us)) (r : Vals vs us) (C : CellsAt cl fr ws s.heap H) (old : ∀ b, inC cl b → base.get? b = none ∧ b ∉ frs outer)
    (q : ∀ H2 : Hp, (∀ b, ¬ inC cl b → H2 b = H b) → CellsT H2 cl fr ws → sp vs H2 (fun v H' => (∀ b, inC cl b → H' b = H2 b) ∧ Q v (hide (inC cl) H')) E) : codeAny (model P w) A (.call (.ref f) args) (CR CX0 outer P w H s Q E) s := by
  have cellD : ∀ b, inC cl b → ∃ o v, H b = none ∧ s.heap.get? b = some o ∧ o.data = .cell v := fun b ⟨y, hy⟩ => by
    obtain ⟨n, v, o, g, d⟩ := C.all y b hy
    exact ⟨o, v, n, g, d⟩
  have CT : CellsT (lay (inC cl) s.heap H) cl fr ws := by
    refine ⟨C.len, C.inj, fun y c hy => ?_, fun i y hy => ?_⟩
    · obtain ⟨o, v, _, g, d⟩ := cellD c ⟨y, hy⟩
      exact ⟨o, v, lay_in ⟨y, hy⟩ g, d⟩
    · obtain ⟨c, hc, hv⟩ := C.has i y hy
      refine ⟨c, hc, fun v ev => ?_⟩
      obtain ⟨u, rv, o, g, d⟩ := hv v ev
      exact ⟨o, u, lay_in ⟨y, hc⟩ g, d, rv⟩
  have ext : ∀ b, inC cl b → ∃ o, lay (inC cl) s.heap H b = some (CellO b o) := fun b z => by
    obtain ⟨o, v, _, g, _⟩ := cellD b z
    exact ⟨o, lay_in z g⟩
  have hokL : HOk P w (lay (inC cl) s.heap H) s.heap := fun a o e => by
    by_cases z : inC cl a
    · obtain ⟨o', v, _, g, _⟩ := cellD a z
      rw [lay_in z g] at e
      cases e
      exact cellO_ok g
    · rw [lay_out z] at e
      refine (e0.hok a o e).stay (fun _ _ _ q => q) (fun b q => ?_) fun b xs q => ?_
      · rw [lay_out (fun y => by
          obtain ⟨_, _, n, _⟩ := cellD b y
          rw [n] at q
          cases q)]
        exact q
      · rw [lay_out (fun y => by
          obtain ⟨_, _, n, _⟩ := cellD b y
          rw [n] at q
          cases q)]
        exact q
  have e1 : Env0 P w K mg base A outer s (lay (inC cl) s.heap H) := ⟨e0.frames, e0.mod, fun b o hb' => ⟨(e0.bs b o hb').1, ?_⟩, e0.bsz, e0.funs, fun b hb' => ?_, hokL, e0.bare⟩
  · refine codeAny_mono (F.run A outer s (lay (inC cl) s.heap H) args us vs _ E hr e1 hb r (q _ (fun b z => lay_out z) CT)) fun res s' hq => ?_
    cases res with
    | error e => exact hq
    | ok fl =>
      cases fl with
      | next => exact hq
      | brk => exact hq
      | cont => exact hq
      | ret u =>
        obtain ⟨v, H1, os, bare, un, hok, rv, same, q1⟩ := hq
        have kept : ∀ b o, inC cl b → s.heap.get? b = some o → s'.heap.get? b = some o := fun b o z g => cellO_at hok ((same b z).trans (lay_in z g))
        have nin : ∀ b x, H b = some x → ¬ inC cl b := fun b x e z => by
          obtain ⟨_, _, n, _⟩ := cellD b z
          rw [n] at e
          cases e
        refine ⟨v, hide (inC cl) H1, os, bare, ⟨fun b o e n hb' hx => ?_, fun b o e n hb' hx => ?_, fun b o e n hx => ?_, un.there, fun b xs e => ?_, fun b o u e => ?_, fun b ps e => ?_⟩, hok_hide hok fun b z => ?_, rv, q1⟩
        · by_cases z : inC cl b
          · exact kept b o z e
          · exact un.keep b o e (by rw [lay_out z]; exact n) hb' hx
        · by_cases z : inC cl b
          · exact ⟨o.slots, kept b o z e⟩
          · exact un.slot b o e (by rw [lay_out z]; exact n) hb' hx
        · by_cases z : inC cl b
          · exact hide_in z
          · rw [hide_out z]
            exact un.free b o e (by rw [lay_out z]; exact n) hx
        · have z := nin b _ e
          rw [hide_out z]
          exact un.tups b xs (by rw [lay_out z]; exact e)
        · have z := nin b _ e
          rw [hide_out z]
          exact un.frzs b o u (by rw [lay_out z]; exact e)
        · have z := nin b _ e
          rw [hide_out z]
          exact un.tbls b ps (by rw [lay_out z]; exact e)
        · obtain ⟨o, y⟩ := ext b z
          exact ⟨o, (same b z).trans y⟩
  · have z : ¬ inC cl b := fun y => by
      rw [(old b y).1] at hb'
      cases hb'
    rw [lay_out z]
    exact (e0.bs b o hb').2
  · have z : ¬ inC cl b := fun y => (old b y).2 hb'
    rw [lay_out z]
    exact e0.frf b hb'
end
/-! ### the rules over them -/
/-- a function value, by what its call is worth -/
structure Callable (P : Program) (w : World) (K : PySem.W.Frag) (mg : Str → Option Value) (base : Heap) (k : Nat) (f : Addr) (sp : Sp) : Prop where
  run : ∀ (A : Around) (outer : List Env) (s : Shared) (H : Hp) (us : List Value) (vs : List V) (Q : VK) (E : XK), Room k A → Env0 P w K mg base A outer s H → Vals vs us → sp vs H Q E → codeAny (model P w) A (.call (.ref f) ⟨us, []⟩) (CR CX0 outer P w H s Q E) s
theorem Callable.of {P : Program} {w : World} {K : PySem.W.Frag} {mg : Str → Option Value} {base : Heap} {k : Nat} {f : Addr} {F : NF} {ps fr : List Str} {sp : List (Option V) → Sp} (Fn : NOk P w K mg base CX0 k f F ps fr sp) :
    Callable P w K mg base k f (fun vs H Q E => ∃ ws, H f = some (FnO f F) ∧ H F.c = some (CodeO F.c F.qual) ∧ CellsT H F.cl fr ws ∧ sp ws vs (hide (inC F.cl) H) (fun v H' => (∀ b, inC F.cl b → H' b = none) → Q v (back (inC F.cl) H H')) E) :=
  ⟨fun A outer s H us vs Q E hr e0 r q => by
    obtain ⟨ws, hf, hc, C, q⟩ := q
    exact run_cell Fn hr e0 hf hc C r q⟩
def tCallV (P : Program) (w : World) (K : PySem.W.Frag) (mg : Str → Option Value) (base : Heap) (k i : Nat) (t : TA) : TE := fun σ H Q => ∃ (f : Addr) (F : NF) (sp : Sp), σ[i]? = some (some (.ref f)) ∧ H f = some (FnO f F) ∧ Callable P w K mg base k f sp ∧ t σ H fun vs H1 => H1 f = some (FnO f F) ∧ sp vs H1 Q E0
section
variable {X : Cx} {e : Expr} {es : List Expr} {t : TA} {x : Str} {p pos : Pos} {i k : Nat}
theorem pe_callV (P : Program) (w : World) (K : PySem.W.Frag) (mg : Str → Option Value) (base : Heap) (hP : X.prog = P) (hw : X.w = w) (hK : X.K = K) (hmg : X.mg = mg) (hba : X.base = base) (room : Room k X.A) (hN : X.N[i]? = some x) (vis : Vis X.env.scope x) (args : PA X (e :: es) t) (nd : (x == ("__debug__" : Str)) = false := by decide)
    (nc : (x == ("__classdict__" : Str)) = false := by decide) (st : starEach (e :: es) X.env = (false, eval e X.env) :: starEach es X.env := by rfl) (pl : (backTo pos (starEach es X.env)).any (·.1) = false := by rfl) : PE X (.Call (.Name x p) (e :: es) [] pos) (tCallV P w K mg base k i t) := by
  subst hP hw hK hmg hba
  refine ⟨fun pins s σ H Q I h => ?_⟩
  obtain ⟨f, F, sp, hs, hf, ca, ht⟩ := h
  refine wpAny_Call_Name_kw (thn ((pe_var (pos := p) hN vis nd nc).run pins s σ H (fun v H1 => v = .ref f ∧ H1 = H) I ⟨.ref f, hs, rfl, rfl⟩) fun u s1 z => ?_)
  obtain ⟨v, H1, I1, r1, ev, eH⟩ := z
  subst ev
  rw [eH] at I1
  obtain rfl : u = Value.ref f := r1
  refine PySem.W.callWith_F (first := []) (fnAt_of I1 hf) (thn (args.run pos pins s1 σ H _ I1 ht) fun us s2 z => ?_) st pl
  obtain ⟨vs, H2, I2, r, h1, q⟩ := z
  refine ⟨fnAt_of I2 h1, ?_⟩
  show wpAny _ _ (call (.ref f) us) _ _ _
  refine wpAny_call (codeAny_mono (ca.run X.A X.stack s2 H2 us vs Q E0 room I2.env0 r q) fun res s' z => ?_)
  cases res with
  | error er => exact z.elim
  | ok fl =>
    cases fl with
    | ret u => exact I2.after z
    | next => exact z.elim
    | brk => exact z.elim
    | cont => exact z.elim
def tCallTr (OK : Prop) (cl : List (Str × Addr)) (fr : List Str) (js : List Nat) (n : Nat) (sp : Sp) (t : TA) : TE := fun σ H Q => t σ H fun vs H1 => vs.length = n ∧ (OK → ∀ H2 : Hp, (∀ b, ¬ inC cl b → H2 b = H1 b) → (∀ b, inC cl b → H1 b = none) → CellsT H2 cl fr (js.map (slotAt σ)) → sp vs H2 (fun v H' => (∀ b, inC cl b → H' b = H2 b) ∧ Q v (hide (inC cl) H')) E0)
theorem pe_callTr {f : Addr} {fd : FuncData} {ps fr : List Str} {js : List Nat} {sp : Sp} (G : FnOk X.prog X.w X.K X.mg X.base CX0 k f fd ps sp) (room : Room k X.A) (hg : Gl X x) (hm : X.mg x = some (.ref f)) (kp : PySem.W.keepIn X.K (.ref f) = true) (bi : Binds X.K fd ps []) (cp : X.Ok → Caps X X.env.cells fr js) (allfn : ∀ y, X.fn y = true) (args : PA X (e :: es) t)
    (nd : (x == ("__debug__" : Str)) = false := by decide) (st : starEach (e :: es) X.env = (false, eval e X.env) :: starEach es X.env := by rfl) (pl : (backTo pos (starEach es X.env)).any (·.1) = false := by rfl) : PE X (.Call (.Name x p) (e :: es) [] pos) (tCallTr X.Ok X.env.cells fr js ps.length sp t) := by
  refine ⟨fun pins s σ H Q I h => ?_⟩
  refine wpAny_Call_Name_kw (ld_glob I hg hm ?_ nd)
  refine PySem.W.callWith_K (h₀ := X.base) I.ok.mod.kin kp (thn (args.run pos pins s σ H _ I h) fun us s1 z => ?_) st pl
  obtain ⟨vs, H1, I1, r, hl, q⟩ := z
  refine ⟨I1.kIn, ?_⟩
  have C := cells_of I1 (cp I1.ok)
  have young : ∀ b, inC X.env.cells b → X.s_0.heap.objs.size ≤ b := fun b z => by
    obtain ⟨y, hy⟩ := z
    exact I1.ok.cab y b (allfn y) hy
  have old : ∀ b, inC X.env.cells b → X.base.get? b = none ∧ b ∉ frs X.stack := fun b z => by
    have yb := young b z
    refine ⟨?_, fun hb => ?_⟩
    · cases g : X.base.get? b with
      | none => rfl
      | some o => exact absurd (Nat.lt_of_lt_of_le (Heap.lt_size (I1.ok.bs b o g).1) yb) (Nat.lt_irrefl _)
    · have nofs : b ∉ frs X.outer := fun hb => by
        obtain ⟨_, o, ho, _⟩ := I1.ok.funs.mem hb
        exact absurd (Nat.lt_of_lt_of_le (Heap.lt_size ho) yb) (Nat.lt_irrefl _)
      rcases I1.ok.stk with z' | ⟨z', z2⟩
      · rw [z'] at hb
        exact nofs hb
      · rw [z'] at hb
        unfold frs at hb
        rw [List.filterMap_cons, z2] at hb
        rcases List.mem_cons.mp hb with y | y
        · obtain ⟨yy, hy⟩ := z
          exact I1.cne yy b hy y
        · exact nofs y
  refine wpAny_call (codeAny_mono (run_track G room I1.env0 (bi s1 us I1.kIn (by rw [List.append_nil, ← r.length]; exact hl)) (by rw [List.append_nil]; exact r) C old fun H2 a b => q I1.ok H2 a (fun b z => ?_) b) fun res s' z => ?_)
  · obtain ⟨y, hy⟩ := z
    exact (C.all y b hy).1
  · cases res with
    | error er => exact z.elim
    | ok fl =>
      cases fl with
      | ret u => exact I1.after z
      | next => exact z.elim
      | brk => exact z.elim
      | cont => exact z.elim
end
/-! ### a def whose code object is known: it makes functions of its own -/
structure FunC (K : PySem.W.Frag) (x qual : Str) (st : Stmt) (f : Addr) (fd : FuncData) (c : Addr) : Prop where
  ex : ∃ (oc : Value) (od : Option Addr) (kV doc pm : Value) (an : Option Addr) (ct : Value) (osl : Array (Option Value)), fd = PySem.W.fnOf x qual (defArgs st) (defBody st) (defScope st) .none kV doc pm an (.ref c) ct ∧ K.lookup f = some ⟨oc, od, .func fd, osl⟩ ∧ PySem.W.codeIn K (.ref c) qual = true
theorem FunC.ok {P : Program} {w : World} {K : PySem.W.Frag} {mg : Str → Option Value} {base : Heap} {x qual : Str} {st : Stmt} {f c : Addr} {fd : FuncData} {N ps : List Str} {k : Nat} {sp : Sp} (F : FunC K x qual st f fd c) (S : FnScope N ps (defScope st)) (len : ∀ vs H Q E, sp vs H Q E → vs.length = ps.length)
    (body : ∀ (A : Around) (outer : List Env) (s : Shared) (H : Hp) (vs : List V) (Q : VK) (E : XK), Room k (A.deeper (envOfC qual (defScope st) s.heap.objs.size f (.ref c))) → sp vs H Q E → ∃ t, PSs (cxOf CX0 P w K mg base N qual (defScope st) f (.ref c) A outer s H E).nox (defBody st) t ∧ t { nx := fun _ H' => Q .non H', rt := Q } (start N vs) H) : FnOk P w K mg base CX0 (k + 1) f fd ps sp := by
  obtain ⟨oc, od, kV, doc, pm, an, ct, osl, rfl, lk, hcd⟩ := F.ex
  refine fn_of lk hcd S len fun A outer s H vs Q E hr hsp => ?_
  obtain ⟨t, h, q⟩ := body A outer s H vs Q E hr hsp
  exact ⟨t, h.nox, q⟩
def lineOf : Stmt → Nat
  | .FunctionDef _ _ _ _ _ _ _ _ _ p => p.line
  | _ => 0
end LH

namespace LH
open PySem PySem.Spec PyProof.Rows L2
/-! ### a partition of the states: groups by number, homes by state -/
structure Part (n : Nat) (gs : List (List Nat)) (hl : List Nat) : Prop where
  len : hl.length = n
  mem : ∀ (h : Nat) (g : List Nat), gs[h]? = some g → ∀ s : Nat, s ∈ g ↔ hl[s]? = some h
  lt : ∀ (s h : Nat), hl[s]? = some h → h < gs.length
  nd : ∀ g ∈ gs, g.Nodup
  ne : ∀ g ∈ gs, g ≠ []
structure Split (n : Nat) (gs gs' : List (List Nat)) (hl hl' : List Nat) (home : Nat) (hit : List Nat) : Prop where
  grow : gs.length ≤ gs'.length
  part : Part n gs' hl'
  map : ∃ B : Nat → Bool, (∀ s : Nat, hl'[s]? = if hl[s]? = some home ∧ B s = true then some gs.length else hl[s]?) ∧ ((∀ s : Nat, hl[s]? = some home → (B s = true ↔ s ∈ hit)) ∨ (∀ s : Nat, hl[s]? = some home → (B s = true ↔ s ∉ hit)))
def GrpAt (H : Hp) (gr : Addr) (as : List Addr) (gs : List (List Nat)) : Prop := H gr = some (.lst (vr as)) ∧ as.Nodup ∧ as.length = gs.length ∧ ∀ (i : Nat) (a : Addr) (g : List Nat), as[i]? = some a → gs[i]? = some g → H a = some (.dK (dk g))
theorem GrpAt.dict {H : Hp} {gr : Addr} {as : List Addr} {gs : List (List Nat)} (h : GrpAt H gr as gs) {a : Addr} (ha : a ∈ as) : ∃ g, H a = some (.dK (dk g)) := by
  obtain ⟨i, hi⟩ := List.mem_iff_getElem?.mp ha
  have hl : i < gs.length := by
    rw [← h.2.2.1]
    exact (List.getElem?_eq_some_iff.mp hi).1
  exact ⟨gs[i], h.2.2.2 i a _ hi (List.getElem?_eq_getElem hl)⟩
theorem GrpAt.not {H : Hp} {gr : Addr} {as : List Addr} {gs : List (List Nat)} (h : GrpAt H gr as gs) {a : Addr} {o : HO} (ha : H a = some o) (no : ∀ g, o ≠ .dK (dk g)) : a ∉ as := fun z => by
  obtain ⟨g, e⟩ := h.dict z
  rw [ha] at e
  exact no g (Option.some.inj e)
/-- the frame: what is not the groups', not the homes' -/
def OffG (gr ho : Addr) (as : List Addr) (H H' : Hp) : Prop := ∀ b o, b ≠ gr → b ≠ ho → b ∉ as → H b = some o → H' b = some o
theorem Part.many {n : Nat} {gs : List (List Nat)} {hl : List Nat} (p : Part n gs hl) : gs.length ≤ n := by
  have key : ∀ (k : Nat) (hk : k ≤ gs.length), ∃ xs : List Nat, xs.length = k ∧ xs.Nodup ∧ ∀ x ∈ xs, ∃ h, h < k ∧ hl[x]? = some h := by
    intro k
    induction k with
    | zero => exact fun _ => ⟨[], rfl, List.nodup_nil, fun _ h => nomatch h⟩
    | succ k ih =>
      intro hk
      obtain ⟨xs, l, nd, q⟩ := ih (by omega)
      have hg : gs[k]? = some gs[k] := List.getElem?_eq_getElem (by omega)
      cases eg : gs[k] with
      | nil => exact absurd eg (p.ne _ (List.getElem_mem _))
      | cons y r =>
        have hy : hl[y]? = some k := (p.mem k _ hg y).mp (by rw [eg]; exact List.mem_cons_self ..)
        refine ⟨y :: xs, by rw [List.length_cons, l], List.nodup_cons.mpr ⟨fun z => ?_, nd⟩, fun x hx => ?_⟩
        · obtain ⟨h, hlt, e⟩ := q y z
          rw [hy] at e
          cases e
          omega
        · rcases List.mem_cons.mp hx with rfl | hx
          · exact ⟨k, Nat.lt_succ_self k, hy⟩
          · obtain ⟨h, hlt, e⟩ := q x hx
            exact ⟨h, by omega, e⟩
  obtain ⟨xs, l, nd, q⟩ := key gs.length (Nat.le_refl _)
  have := len_le_of_sub (ys := List.range n) nd fun x hx => by
    obtain ⟨h, _, e⟩ := q x hx
    have := (List.getElem?_eq_some_iff.mp e).1
    rw [p.len] at this
    exact List.mem_range.mpr this
  rw [List.length_range] at this
  omega
/-- the states of mv get a number of their own -/
def rehome (hl mv : List Nat) (new : Nat) : List Nat := mv.foldl (fun l s => l.set s new) hl
theorem rehome_len (new : Nat) : ∀ (mv hl : List Nat), (rehome hl mv new).length = hl.length
  | [], _ => rfl
  | s :: r, hl => by
    show (rehome (hl.set s new) r new).length = _
    rw [rehome_len new r, List.length_set]
theorem rehome_get (new : Nat) : ∀ (mv hl : List Nat) (s : Nat), (∀ x ∈ mv, x < hl.length) → (rehome hl mv new)[s]? = if s ∈ mv then some new else hl[s]?
  | [], _, _, _ => by simp [rehome]
  | x :: r, hl, s, h => by
    have ih := rehome_get new r (hl.set x new) s fun y hy => by
      rw [List.length_set]
      exact h y (List.mem_cons_of_mem _ hy)
    show (rehome (hl.set x new) r new)[s]? = _
    rw [ih]
    have hx := h x (List.mem_cons_self ..)
    by_cases e : s ∈ r
    · rw [if_pos e, if_pos (List.mem_cons_of_mem _ e)]
    · rw [if_neg e]
      by_cases e2 : s = x
      · subst e2
        rw [if_pos (List.mem_cons_self ..), List.getElem?_set_self hx]
      · rw [if_neg (fun z => (List.mem_cons.mp z).elim e2 e), List.getElem?_set_ne (Ne.symm e2)]
theorem rehome_snoc (hl mv : List Nat) (s new : Nat) : rehome hl (mv ++ [s]) new = (rehome hl mv new).set s new := by
  unfold rehome
  rw [List.foldl_append]
  rfl
/-- a group is parted into rest (it keeps the number) and mv (a new one) -/
theorem part_split {n home : Nat} {gs : List (List Nat)} {hl g rest mv hit : List Nat} (p : Part n gs hl) (hg : gs[home]? = some g) (nr : rest.Nodup) (nm : mv.Nodup) (r0 : rest ≠ []) (m0 : mv ≠ [])
    (h : ((∀ s, s ∈ mv ↔ s ∈ g ∧ s ∈ hit) ∧ (∀ s, s ∈ rest ↔ s ∈ g ∧ s ∉ hit)) ∨ ((∀ s, s ∈ rest ↔ s ∈ g ∧ s ∈ hit) ∧ (∀ s, s ∈ mv ↔ s ∈ g ∧ s ∉ hit))) : Split n gs (gs.set home rest ++ [mv]) hl (rehome hl mv gs.length) home hit := by
  have hh : home < gs.length := (List.getElem?_eq_some_iff.mp hg).1
  have mg : ∀ s, s ∈ mv → s ∈ g := fun s hs => by
    rcases h with h | h
    · exact ((h.1 s).mp hs).1
    · exact ((h.2 s).mp hs).1
  have rg : ∀ s, s ∈ rest ↔ s ∈ g ∧ s ∉ mv := fun s => by
    rcases h with h | h
    · rw [h.2 s, h.1 s]
      exact ⟨fun ⟨a, b⟩ => ⟨a, fun c => b c.2⟩, fun ⟨a, b⟩ => ⟨a, fun c => b ⟨a, c⟩⟩⟩
    · rw [h.1 s, h.2 s]
      refine ⟨fun ⟨a, b⟩ => ⟨a, fun c => c.2 b⟩, fun ⟨a, b⟩ => ⟨a, ?_⟩⟩
      by_cases q : s ∈ hit
      · exact q
      · exact absurd ⟨a, q⟩ b
  have gm : ∀ s, s ∈ g ↔ hl[s]? = some home := p.mem home g hg
  have lt : ∀ x ∈ mv, x < hl.length := fun x hx => (List.getElem?_eq_some_iff.mp ((gm x).mp (mg x hx))).1
  have get := fun s => rehome_get gs.length mv hl s lt
  refine ⟨by rw [List.length_append, List.length_set]; omega, ⟨?_, fun k g' hk s => ?_, fun s k hs => ?_, fun g' hg' => ?_, fun g' hg' => ?_⟩, fun s => decide (s ∈ mv), fun s => ?_, ?_⟩
  · rw [rehome_len, p.len]
  · rw [get s]
    by_cases hk1 : k < gs.length
    · rw [List.getElem?_append_left (by rw [List.length_set]; exact hk1)] at hk
      by_cases hkh : k = home
      · subst hkh
        rw [List.getElem?_set_self hk1] at hk
        cases hk
        rw [rg s, gm s]
        by_cases e : s ∈ mv
        · rw [if_pos e]
          exact ⟨fun z => absurd e z.2, fun z => by
            have := Option.some.inj z
            omega⟩
        · rw [if_neg e]
          exact ⟨fun z => z.1, fun z => ⟨z, e⟩⟩
      · rw [List.getElem?_set_ne (Ne.symm hkh)] at hk
        rw [p.mem k g' hk s]
        by_cases e : s ∈ mv
        · rw [if_pos e]
          have := (gm s).mp (mg s e)
          rw [this]
          exact ⟨fun z => absurd (Option.some.inj z).symm hkh, fun z => by
            have := Option.some.inj z
            omega⟩
        · rw [if_neg e]
    · have ek : k = gs.length := by
        have := (List.getElem?_eq_some_iff.mp hk).1
        rw [List.length_append, List.length_set] at this
        have : k < gs.length + 1 := this
        omega
      subst ek
      rw [List.getElem?_append_right (by rw [List.length_set]; exact Nat.le_refl _), List.length_set, Nat.sub_self] at hk
      cases hk
      by_cases e : s ∈ mv
      · rw [if_pos e]
        exact ⟨fun _ => rfl, fun _ => e⟩
      · rw [if_neg e]
        exact ⟨fun z => absurd z e, fun z => absurd (p.lt s _ z) (Nat.lt_irrefl _)⟩
  · rw [get s] at hs
    rw [List.length_append, List.length_set]
    show k < gs.length + 1
    by_cases e : s ∈ mv
    · rw [if_pos e] at hs
      cases hs
      omega
    · rw [if_neg e] at hs
      have := p.lt s k hs
      omega
  · rcases List.mem_append.mp hg' with z | z
    · rcases List.mem_or_eq_of_mem_set z with y | y
      · exact p.nd _ y
      · rw [y]; exact nr
    · rw [List.mem_singleton.mp z]; exact nm
  · rcases List.mem_append.mp hg' with z | z
    · rcases List.mem_or_eq_of_mem_set z with y | y
      · exact p.ne _ y
      · rw [y]; exact r0
    · rw [List.mem_singleton.mp z]; exact m0
  · rw [get s]
    by_cases e : s ∈ mv
    · rw [if_pos e, if_pos ⟨(gm s).mp (mg s e), decide_eq_true e⟩]
    · rw [if_neg e, if_neg (fun z => e (of_decide_eq_true z.2))]
  · rcases h with h | h
    · exact .inl fun s hs => by
        rw [decide_eq_true_iff, h.1 s, gm s]
        exact ⟨fun z => z.2, fun z => ⟨hs, z⟩⟩
    · exact .inr fun s hs => by
        rw [decide_eq_true_iff, h.2 s, gm s]
        exact ⟨fun z => z.2, fun z => ⟨hs, z⟩⟩
theorem split_none {n home : Nat} {gs : List (List Nat)} {hl g hit : List Nat} (p : Part n gs hl) (hg : gs[home]? = some g) (h : ∀ s ∈ g, s ∈ hit) : Split n gs gs hl hl home hit :=
  ⟨Nat.le_refl _, p, fun _ => false, fun s => by rw [if_neg (fun z => Bool.false_ne_true z.2)], .inr fun s hs => ⟨fun z => absurd z Bool.false_ne_true, fun z => absurd (h s ((p.mem home g hg s).mpr hs)) z⟩⟩
end LH

namespace LH
open PySem PySem.Spec PyProof.Rows L2
theorem int_at {ns : List Nat} {i : Nat} {x : V} (h : (vi ns)[i]? = some x) : ∃ s, ns[i]? = some s ∧ x = .int (s : Int) := by
  rw [List.getElem?_map] at h
  cases e : ns[i]? with
  | none =>
    rw [e] at h
    cases h
  | some s =>
    rw [e] at h
    cases h
    exact ⟨s, rfl, rfl⟩
theorem take_snoc {α : Type} {xs : List α} {i : Nat} {x : α} (h : xs[i]? = some x) : xs.take (i + 1) = xs.take i ++ [x] := by
  rw [List.take_add_one, h]
  rfl
theorem notin_take {xs : List Nat} (nd : xs.Nodup) {i s : Nat} (h : xs[i]? = some s) : s ∉ xs.take i := fun z => by
  have hi := (List.getElem?_eq_some_iff.mp h).1
  obtain ⟨j, hj⟩ := List.mem_iff_getElem?.mp z
  have hji : j < i := by
    have := (List.getElem?_eq_some_iff.mp hj).1
    rw [List.length_take] at this
    omega
  rw [List.getElem?_take_of_lt hji] at hj
  have := nd_ix nd hj h
  omega
theorem filt_step {g hit : List Nat} {i s : Nat} (h : hit[i]? = some s) : (g.filter fun a => decide (a ∉ hit.take i)).filter (fun a => decide (a ≠ s)) = g.filter fun a => decide (a ∉ hit.take (i + 1)) := by
  rw [List.filter_filter]
  refine List.filter_congr fun a _ => ?_
  rw [take_snoc h, Bool.eq_iff_iff]
  simp [not_or, and_comm]
theorem ixN_nat {n i : Nat} (h : i < n) : ixN n (i : Int) = some i := by
  unfold ixN
  simp
  omega
theorem vi_set (ns : List Nat) (i x : Nat) : (vi ns).set i (.int (x : Int)) = vi (ns.set i x) := by
  show List.set (List.map _ ns) i _ = List.map _ (ns.set i x)
  rw [List.map_set]
theorem vr_set (as : List Addr) (i : Nat) (x : Addr) : (vr as).set i (.ref x) = vr (as.set i x) := by
  show List.set (List.map _ as) i _ = List.map _ (as.set i x)
  rw [List.map_set]
theorem nodup_set {as : List Addr} {i : Nat} {x : Addr} (nd : as.Nodup) (hx : x ∉ as) : (as.set i x).Nodup := by
  rw [List.nodup_iff_pairwise_ne] at *
  induction as generalizing i with
  | nil => simp
  | cons a r ih =>
    have h2 := List.pairwise_cons.mp nd
    cases i with
    | zero =>
      refine List.Pairwise.cons (fun b hb e => hx ?_) h2.2
      rw [e]
      exact List.mem_cons_of_mem _ hb
    | succ i =>
      refine List.Pairwise.cons (fun b hb e => ?_) (ih (i := i) h2.2 fun z => hx (List.mem_cons_of_mem _ z))
      rcases List.mem_or_eq_of_mem_set hb with y | y
      · exact h2.1 b y e
      · exact hx (by rw [← y, ← e]; exact List.mem_cons_self ..)
theorem two_mul_len (n : Nat) : (2 : Int) * (n : Int) = ((2 * n : Nat) : Int) := by omega
section
variable {P : Program} {w : World} {K : PySem.W.Frag} {mg : Str → Option Value} {base : Heap}
def sp_split_group : Sp := fun vs H Q _ => ∃ (gr ho ht : Addr) (home n : Nat) (as : List Addr) (gs : List (List Nat)) (hl hit : List Nat), vs = [.ref gr, .ref ho, .int (home : Int), .ref ht] ∧ GrpAt H gr as gs ∧ H ho = some (.lst (vi hl)) ∧ H ht = some (.lst (vi hit)) ∧ gr ≠ ho ∧ ht ≠ gr ∧ ht ≠ ho ∧
  Part n gs hl ∧ n ≤ 1000000 ∧ hit.Nodup ∧ hit ≠ [] ∧ (∀ s ∈ hit, hl[s]? = some home) ∧
  ∀ H' as' gs' hl', GrpAt H' gr as' gs' → H' ho = some (.lst (vi hl')) → Split n gs gs' hl hl' home hit → OffG gr ho as H H' → (∀ a ∈ as', a ∈ as ∨ H a = none) → Q .non H'
end
end LH

namespace LH
open PySem PySem.Spec PyProof.Rows L2
/-! ### hits_of: states by their homes -/
abbrev Ent := Nat × Addr × List Nat
abbrev ek (es : List Ent) : List (Key × V) := es.map fun (e : Ent) => (Sum.inl (e.1 : Int), V.ref e.2.1)
theorem valV_ek (h : Nat) : ∀ es : List Ent, valV (ek es) (Sum.inl (h : Int) : Key) = (es.find? fun e => decide (e.1 = h)).map fun e => V.ref e.2.1
  | [] => rfl
  | e :: r => by
    show valV ((Sum.inl (e.1 : Int), V.ref e.2.1) :: ek r) (Sum.inl (h : Int) : Key) = _
    by_cases q : e.1 = h
    · subst q
      rw [valV_pos rfl, List.find?_cons]
      simp
    · rw [valV_neg (fun z => q (by have := Sum.inl.inj z; omega)), valV_ek h r, List.find?_cons]
      simp [q]
theorem putK_ek {es : List Ent} {h : Nat} {l : Addr} (hn : (es.find? fun e => decide (e.1 = h)) = none) : putK (ek es) (Sum.inl (h : Int) : Key) (.ref l) = ek (es ++ [(h, l, [])]) := by
  unfold putK
  rw [valV_any, valV_ek, hn, if_neg (by decide)]
  show _ = List.map _ (es ++ [(h, l, [])])
  rw [List.map_append]
  rfl
structure HitsOk (H : Hp) (es : List Ent) (hl pre : List Nat) : Prop where
  nd : (es.map (·.1)).Nodup
  na : (es.map (·.2.1)).Nodup
  at_ : ∀ e ∈ es, H e.2.1 = some (.lst (vi e.2.2))
  eq : ∀ e ∈ es, e.2.2 = pre.filter fun s => decide (hl[s]? = some e.1)
  ne : ∀ e ∈ es, e.2.2 ≠ []
  all : ∀ s ∈ pre, ∃ e ∈ es, hl[s]? = some e.1
/-- ahead of the append: the entry of h is there, perhaps empty -/
structure HitsMid (H : Hp) (es1 es2 : List Ent) (l : Addr) (h : Nat) (xs hl pre : List Nat) : Prop where
  nd : ((es1 ++ (h, l, xs) :: es2).map (·.1)).Nodup
  na : ((es1 ++ (h, l, xs) :: es2).map (·.2.1)).Nodup
  at_ : ∀ e ∈ es1 ++ (h, l, xs) :: es2, H e.2.1 = some (.lst (vi e.2.2))
  eq : ∀ e ∈ es1 ++ (h, l, xs) :: es2, e.2.2 = pre.filter fun s => decide (hl[s]? = some e.1)
  ne : ∀ e ∈ es1 ++ es2, e.2.2 ≠ []
  all : ∀ s ∈ pre, ∃ e ∈ es1 ++ (h, l, xs) :: es2, hl[s]? = some e.1
theorem HitsMid.step {H H' : Hp} {es1 es2 : List Ent} {l : Addr} {h s : Nat} {xs hl pre : List Nat} (m : HitsMid H es1 es2 l h xs hl pre) (hs : hl[s]? = some h) (h1 : H' l = some (.lst (vi (xs ++ [s])))) (h2 : ∀ b o, b ≠ l → H b = some o → H' b = some o) : HitsOk H' (es1 ++ (h, l, xs ++ [s]) :: es2) hl (pre ++ [s]) := by
  have keys : ∀ {ys : List Nat}, (es1 ++ (h, l, ys) :: es2).map (fun e : Ent => e.1) = (es1 ++ (h, l, xs) :: es2).map (fun e : Ent => e.1) := fun {ys} => by simp
  have adrs : ∀ {ys : List Nat}, (es1 ++ (h, l, ys) :: es2).map (fun e : Ent => e.2.1) = (es1 ++ (h, l, xs) :: es2).map (fun e : Ent => e.2.1) := fun {ys} => by simp
  have inm : ∀ e ∈ es1 ++ es2, e ∈ es1 ++ (h, l, xs) :: es2 := fun e he => by
    rcases List.mem_append.mp he with z | z
    · exact List.mem_append_left _ z
    · exact List.mem_append_right _ (List.mem_cons_of_mem _ z)
  have dif : ∀ e ∈ es1 ++ es2, e.1 ≠ h ∧ e.2.1 ≠ l := fun e he => by
    have n1 := m.nd
    have n2 := m.na
    rw [List.map_append, List.map_cons, List.nodup_append, List.nodup_cons] at n1 n2
    rcases List.mem_append.mp he with z | z
    · exact ⟨fun q => n1.2.2 _ (List.mem_map_of_mem z) _ (List.mem_cons_self ..) q, fun q => n2.2.2 _ (List.mem_map_of_mem z) _ (List.mem_cons_self ..) q⟩
    · exact ⟨fun q => n1.2.1.1 (List.mem_map.mpr ⟨e, z, q⟩), fun q => n2.2.1.1 (List.mem_map.mpr ⟨e, z, q⟩)⟩
  have cases_ : ∀ e ∈ es1 ++ (h, l, xs ++ [s]) :: es2, e = (h, l, xs ++ [s]) ∨ e ∈ es1 ++ es2 := fun e he => by
    rcases List.mem_append.mp he with z | z
    · exact .inr (List.mem_append_left _ z)
    · rcases List.mem_cons.mp z with y | y
      · exact .inl y
      · exact .inr (List.mem_append_right _ y)
  have self : (h, l, xs) ∈ es1 ++ (h, l, xs) :: es2 := List.mem_append_right _ (List.mem_cons_self ..)
  have self' : (h, l, xs ++ [s]) ∈ es1 ++ (h, l, xs ++ [s]) :: es2 := List.mem_append_right _ (List.mem_cons_self ..)
  refine ⟨by rw [keys]; exact m.nd, by rw [adrs]; exact m.na, fun e he => ?_, fun e he => ?_, fun e he => ?_, fun t ht => ?_⟩
  · rcases cases_ e he with rfl | z
    · exact h1
    · exact h2 _ _ (dif e z).2 (m.at_ e (inm e z))
  · rw [List.filter_append]
    rcases cases_ e he with rfl | z
    · have e1 := m.eq _ self
      have : ([s].filter fun s => decide (hl[s]? = some h)) = [s] := by simp [hs]
      show xs ++ [s] = _
      rw [this]
      congr 1
    · have : ([s].filter fun s => decide (hl[s]? = some e.1)) = [] := by
        simp [hs]
        exact fun q => (dif e z).1 q.symm
      rw [this, List.append_nil]
      exact m.eq e (inm e z)
  · rcases cases_ e he with rfl | z
    · show xs ++ [s] ≠ []
      simp
    · exact m.ne e z
  · rcases List.mem_append.mp ht with z | z
    · obtain ⟨e, he, q⟩ := m.all t z
      rcases List.mem_append.mp he with y | y
      · exact ⟨e, List.mem_append_left _ y, q⟩
      · rcases List.mem_cons.mp y with rfl | y
        · exact ⟨_, self', q⟩
        · exact ⟨e, List.mem_append_right _ (List.mem_cons_of_mem _ y), q⟩
    · rw [List.mem_singleton.mp z]
      exact ⟨_, self', hs⟩
def flat (ws : List (List Nat)) (tl : List Nat) : List Nat := (tl.map fun t => ws.getD t []).flatten
theorem flat_snoc (ws : List (List Nat)) (tl : List Nat) (t : Nat) : flat ws (tl ++ [t]) = flat ws tl ++ ws.getD t [] := by
  unfold flat
  rw [List.map_append, List.flatten_append]
  simp
def LolAt (H : Hp) (bk : Addr) (bs : List Addr) (ws : List (List Nat)) : Prop := H bk = some (.lst (vr bs)) ∧ bs.length = ws.length ∧ ∀ (i : Nat) (b : Addr) (w : List Nat), bs[i]? = some b → ws[i]? = some w → H b = some (.lst (vi w))
theorem LolAt.same {H H' : Hp} {bk : Addr} {bs : List Addr} {ws : List (List Nat)} (h : LolAt H bk bs ws) (e : Same H H') : LolAt H' bk bs ws := ⟨e _ _ h.1, h.2.1, fun i b w x y => e _ _ (h.2.2 i b w x y)⟩
theorem LolAt.get {H : Hp} {bk : Addr} {bs : List Addr} {ws : List (List Nat)} (h : LolAt H bk bs ws) {t : Nat} (ht : t < ws.length) : ∃ b, (vr bs)[t]? = some (.ref b) ∧ H b = some (.lst (vi (ws.getD t []))) := by
  have hb : t < bs.length := by
    rw [h.2.1]
    exact ht
  refine ⟨bs[t], ?_, ?_⟩
  · rw [List.getElem?_map, List.getElem?_eq_getElem hb]
    rfl
  · refine h.2.2 t _ _ (List.getElem?_eq_getElem hb) ?_
    rw [List.getD_eq_getElem?_getD, List.getElem?_eq_getElem ht]
    rfl
theorem flat_take {ws : List (List Nat)} {tl : List Nat} {i t : Nat} (h : tl[i]? = some t) : ∃ post, flat ws tl = flat ws (tl.take i) ++ (ws.getD t [] ++ post) := by
  refine ⟨flat ws (tl.drop (i + 1)), ?_⟩
  have hi := (List.getElem?_eq_some_iff.mp h).1
  have e : tl = tl.take i ++ t :: tl.drop (i + 1) := by
    conv => lhs; rw [← List.take_append_drop i tl, List.drop_eq_getElem_cons hi]
    congr 2
    exact (List.getElem?_eq_some_iff.mp h).2
  conv => lhs; rw [e]
  unfold flat
  rw [List.map_append, List.flatten_append, List.map_cons, List.flatten_cons]
section
variable {P : Program} {w : World} {K : PySem.W.Frag} {mg : Str → Option Value} {base : Heap}
def sp_hits_of : Sp := fun vs H Q _ => ∃ (bk tg ho : Addr) (bs : List Addr) (ws : List (List Nat)) (tl hl : List Nat), vs = [.ref bk, .ref tg, .ref ho] ∧ LolAt H bk bs ws ∧ H tg = some (.lst (vi tl)) ∧ H ho = some (.lst (vi hl)) ∧ (∀ t ∈ tl, t < ws.length) ∧ (∀ s ∈ flat ws tl, s < hl.length) ∧ (flat ws tl).length ≤ 1000000 ∧
  ∀ H' hd (es : List Ent), Same H H' → H hd = none → H' hd = some (.dK (ek es)) → HitsOk H' es hl (flat ws tl) → (∀ e ∈ es, H e.2.1 = none) → Q (.ref hd) H'
theorem len_ents {es : List Ent} {hl pre : List Nat} (nd : (es.map (·.1)).Nodup) (eq : ∀ e ∈ es, e.2.2 = pre.filter fun s => decide (hl[s]? = some e.1)) (ne : ∀ e ∈ es, e.2.2 ≠ []) : es.length ≤ pre.length := by
  -- each entry's home is the home of some state
  have key : (es.map fun e : Ent => e.1).length ≤ (pre.map fun s => hl.getD s 0).length := len_le_of_sub nd fun x hx => by
    obtain ⟨e, he, rfl⟩ := List.mem_map.mp hx
    have h1 := ne e he
    rw [eq e he] at h1
    obtain ⟨s, hs⟩ := List.exists_mem_of_ne_nil _ h1
    obtain ⟨hs1, hs2⟩ := List.mem_filter.mp hs
    refine List.mem_map.mpr ⟨s, hs1, ?_⟩
    rw [List.getD_eq_getElem?_getD, of_decide_eq_true hs2]
    rfl
  rw [List.length_map, List.length_map] at key
  exact key
end
end LH

namespace LH
open PySem PySem.Spec PyProof.Rows L2
/-! ### ways_back: for each column, for each state, where it is come from -/
def dl (rows : List (List Nat)) (s c : Nat) : Nat := (rows.getD s []).getD c 0
structure BK (H : Hp) (bk : Addr) (cs : List Addr) (bss : List (List Addr)) (n : Nat) (F : Nat → Nat → List Nat) : Prop where
  top : H bk = some (.lst (vr cs))
  len : cs.length = bss.length
  col : ∀ (c : Nat) (a : Addr) (bs : List Addr), cs[c]? = some a → bss[c]? = some bs → H a = some (.lst (vr bs)) ∧ bs.length = n
  cell : ∀ (c t : Nat) (bs : List Addr) (b : Addr), bss[c]? = some bs → bs[t]? = some b → H b = some (.lst (vi (F c t)))
  nd : bss.flatten.Nodup
theorem BK.same {H H' : Hp} {bk : Addr} {cs : List Addr} {bss : List (List Addr)} {n : Nat} {F : Nat → Nat → List Nat} (h : BK H bk cs bss n F) (e : Same H H') : BK H' bk cs bss n F := ⟨e _ _ h.top, h.len, fun c a bs x y => ⟨e _ _ (h.col c a bs x y).1, (h.col c a bs x y).2⟩, fun c t bs b x y => e _ _ (h.cell c t bs b x y), h.nd⟩
theorem flat_ix {α : Type} : ∀ {bss : List (List α)} {c c' t t' : Nat} {bs bs' : List α} {b : α}, bss.flatten.Nodup → bss[c]? = some bs → bss[c']? = some bs' → bs[t]? = some b → bs'[t']? = some b → c = c' ∧ t = t'
  | [], _, _, _, _, _, _, _, _, h, _, _, _ => by simp at h
  | x :: r, 0, 0, t, t', bs, bs', b, nd, h1, h2, h3, h4 => by
    cases h1
    cases h2
    rw [List.flatten_cons, List.nodup_append] at nd
    exact ⟨rfl, nd_ix nd.1 h3 h4⟩
  | x :: r, 0, c' + 1, t, t', bs, bs', b, nd, h1, h2, h3, h4 => by
    cases h1
    rw [List.flatten_cons, List.nodup_append] at nd
    exact absurd rfl (nd.2.2 b (List.mem_of_getElem? h3) b (List.mem_flatten.mpr ⟨bs', List.mem_of_getElem? (by simpa using h2), List.mem_of_getElem? h4⟩))
  | x :: r, c + 1, 0, t, t', bs, bs', b, nd, h1, h2, h3, h4 => by
    cases h2
    rw [List.flatten_cons, List.nodup_append] at nd
    exact absurd rfl (nd.2.2 b (List.mem_of_getElem? h4) b (List.mem_flatten.mpr ⟨bs, List.mem_of_getElem? (by simpa using h1), List.mem_of_getElem? h3⟩))
  | x :: r, c + 1, c' + 1, t, t', bs, bs', b, nd, h1, h2, h3, h4 => by
    rw [List.flatten_cons, List.nodup_append] at nd
    have := flat_ix (bss := r) (c := c) (c' := c') nd.2.1 (by simpa using h1) (by simpa using h2) h3 h4
    exact ⟨by omega, this.2⟩
/-- one list grows -/
theorem BK.put {H : Hp} {bk : Addr} {cs : List Addr} {bss : List (List Addr)} {n c t x : Nat} {F : Nat → Nat → List Nat} {bs : List Addr} {b : Addr} (h : BK H bk cs bss n F) (hc : bss[c]? = some bs) (ht : bs[t]? = some b) (n1 : 1 ≤ n) (l1 : 1 ≤ cs.length) : BK (upd H b (.lst (vi (F c t ++ [x])))) bk cs bss n (fun c' t' => if c' = c ∧ t' = t then F c t ++ [x] else F c' t') := by
  have hb := h.cell c t bs b hc ht
  have nref : ∀ {as : List Addr} {ns : List Nat}, 1 ≤ as.length → HO.lst (vr as) ≠ HO.lst (vi ns) := fun {as ns} l e => by
    cases as with
    | nil => simp at l
    | cons a r =>
      cases ns with
      | nil => cases e
      | cons m q => cases e
  refine ⟨?_, h.len, fun c' a bs' x y => ?_, fun c' t' bs' b' x y => ?_, h.nd⟩
  · rw [upd_ne (ne_of h.top hb (nref l1))]
    exact h.top
  · obtain ⟨z1, z2⟩ := h.col c' a bs' x y
    refine ⟨?_, z2⟩
    rw [upd_ne (ne_of z1 hb (nref (by omega)))]
    exact z1
  · by_cases e : c' = c ∧ t' = t
    · obtain ⟨rfl, rfl⟩ := e
      rw [hc] at x
      cases x
      rw [ht] at y
      cases y
      rw [upd_same]
      show _ = some (HO.lst (vi (if c' = c' ∧ t' = t' then F c' t' ++ [_] else F c' t')))
      rw [if_pos ⟨rfl, rfl⟩]
    · show _ = some (HO.lst (vi (if c' = c ∧ t' = t then F c t ++ [_] else F c' t')))
      rw [if_neg e]
      have nb : b' ≠ b := fun z => by
        subst z
        exact e (flat_ix h.nd x hc y ht)
      rw [upd_ne nb]
      exact h.cell c' t' bs' b' x y
theorem BK.congr {H : Hp} {bk : Addr} {cs : List Addr} {bss : List (List Addr)} {n : Nat} {F G : Nat → Nat → List Nat} (h : BK H bk cs bss n F) (e : ∀ c t, c < cs.length → F c t = G c t) : BK H bk cs bss n G := ⟨h.top, h.len, h.col, fun c t bs b x y => by
  rw [← e c t (by rw [h.len]; exact (List.getElem?_eq_some_iff.mp x).1)]
  exact h.cell c t bs b x y, h.nd⟩
def bkF (rows : List (List Nat)) (s c t : Nat) : List Nat := (List.range s).filter fun s' => decide (dl rows s' c = t)
theorem bkF_succ (rows : List (List Nat)) (s c t : Nat) : bkF rows (s + 1) c t = if dl rows s c = t then bkF rows s c t ++ [s] else bkF rows s c t := by
  unfold bkF
  rw [List.range_succ, List.filter_append]
  by_cases e : dl rows s c = t
  · rw [if_pos e]
    simp [e]
  · rw [if_neg e]
    simp [e]
structure TabOk (n L : Nat) (rows : List (List Nat)) : Prop where
  num : rows.length = n
  one : 1 ≤ n
  big : n ≤ 1000000
  l1 : 1 ≤ L
  l5 : L ≤ 5
  row : ∀ r ∈ rows, r.length = L ∧ ∀ t ∈ r, t < n
theorem TabOk.at_ {n L : Nat} {rows : List (List Nat)} (k : TabOk n L rows) {s : Nat} (h : s < n) : ∃ r, rows[s]? = some r ∧ rows.getD s [] = r ∧ r.length = L ∧ ∀ t ∈ r, t < n := by
  have hs : s < rows.length := by
    rw [k.num]
    exact h
  refine ⟨rows[s], List.getElem?_eq_getElem hs, ?_, k.row _ (List.getElem_mem hs)⟩
  rw [List.getD_eq_getElem?_getD, List.getElem?_eq_getElem hs]
  rfl
theorem TabOk.dl_lt {n L : Nat} {rows : List (List Nat)} (k : TabOk n L rows) {s c : Nat} (h : s < n) (hc : c < L) : dl rows s c < n := by
  obtain ⟨r, _, e, l, t⟩ := k.at_ h
  unfold dl
  rw [e, List.getD_eq_getElem?_getD, List.getElem?_eq_getElem (by omega)]
  exact t _ (List.getElem_mem _)
section
variable {P : Program} {w : World} {K : PySem.W.Frag} {mg : Str → Option Value} {base : Heap}
def sp_ways_back : Sp := fun vs H Q _ => ∃ (tb : Addr) (ras : List Addr) (rows : List (List Nat)) (n L : Nat), vs = [.ref tb] ∧ LolAt H tb ras rows ∧ TabOk n L rows ∧
  ∀ H' bk cs bss, Same H H' → H bk = none → (∀ a ∈ cs, H a = none) → (∀ b ∈ bss.flatten, H b = none) → cs.length = L → BK H' bk cs bss n (bkF rows n) → Q (.ref bk) H'
end
end LH

namespace LH
open PySem PySem.Spec PyProof.Rows L2
/-! ### first_groups -/
def sOf (bs : List Bool) (b : Bool) (i : Nat) : List Nat := (List.range i).filter fun s => decide (bs[s]? = some b)
theorem sOf_succ {bs : List Bool} {b : Bool} {i : Nat} {x : Bool} (h : bs[i]? = some x) : sOf bs b (i + 1) = if x = b then sOf bs b i ++ [i] else sOf bs b i := by
  unfold sOf
  rw [List.range_succ, List.filter_append]
  by_cases e : x = b
  · subst e
    rw [if_pos rfl]
    simp [h]
  · rw [if_neg e]
    simp [h, e]
theorem sOf_mem {bs : List Bool} {b : Bool} {i s : Nat} : s ∈ sOf bs b i ↔ s < i ∧ bs[s]? = some b := by
  unfold sOf
  rw [List.mem_filter, List.mem_range, decide_eq_true_iff]
theorem sOf_nd (bs : List Bool) (b : Bool) (i : Nat) : (sOf bs b i).Nodup := List.nodup_range.filter _
theorem sOf_len (bs : List Bool) (b : Bool) (i : Nat) : (sOf bs b i).length ≤ i := by
  unfold sOf
  refine Nat.le_trans (List.length_filter_le _ _) ?_
  rw [List.length_range]
  exact Nat.le_refl _
structure Pre (bs : List Bool) (gs : List (List Nat)) : Prop where
  nd : ∀ g ∈ gs, g.Nodup ∧ g ≠ []
  ex : ∀ s, s < bs.length → ∃ (h : Nat) (g : List Nat), gs[h]? = some g ∧ s ∈ g
  same : ∀ g ∈ gs, ∀ s, s ∈ g → s < bs.length ∧ ∀ t, t < bs.length → (t ∈ g ↔ bs[t]? = bs[s]?)
  disj : ∀ (h h' : Nat) (g g' : List Nat) (s : Nat), gs[h]? = some g → gs[h']? = some g' → s ∈ g → s ∈ g' → h = h'
theorem pre_of (bs : List Bool) : Pre bs (([sOf bs true bs.length, sOf bs false bs.length]).filter fun g => decide (g ≠ [])) := by
  have mm : ∀ g ∈ ([sOf bs true bs.length, sOf bs false bs.length]).filter (fun g => decide (g ≠ [])), g ≠ [] ∧ ∃ b, g = sOf bs b bs.length := fun g hg => by
    obtain ⟨h1, h2⟩ := List.mem_filter.mp hg
    refine ⟨of_decide_eq_true h2, ?_⟩
    simp only [List.mem_cons, List.mem_nil_iff, or_false] at h1
    rcases h1 with rfl | rfl
    · exact ⟨true, rfl⟩
    · exact ⟨false, rfl⟩
  refine ⟨fun g hg => ?_, fun s hs => ?_, fun g hg s hsg => ?_, fun h h' g g' s hg hg' hsg hsg' => ?_⟩
  · obtain ⟨h1, b, rfl⟩ := mm g hg
    exact ⟨sOf_nd _ _ _, h1⟩
  · have hb : bs[s]? = some bs[s] := List.getElem?_eq_getElem hs
    have hm : s ∈ sOf bs bs[s] bs.length := sOf_mem.mpr ⟨hs, hb⟩
    have : sOf bs bs[s] bs.length ∈ ([sOf bs true bs.length, sOf bs false bs.length]).filter (fun g => decide (g ≠ [])) := by
      refine List.mem_filter.mpr ⟨?_, decide_eq_true (List.ne_nil_of_mem hm)⟩
      cases bs[s] <;> simp
    obtain ⟨h, hh⟩ := List.mem_iff_getElem?.mp this
    exact ⟨h, _, hh, hm⟩
  · obtain ⟨h1, b, rfl⟩ := mm g hg
    obtain ⟨h2, h3⟩ := sOf_mem.mp hsg
    refine ⟨h2, fun t ht => ?_⟩
    rw [sOf_mem, h3]
    exact ⟨fun z => z.2, fun z => ⟨ht, z⟩⟩
  · have key : (([sOf bs true bs.length, sOf bs false bs.length]).filter fun g => decide (g ≠ [])).Nodup ∨ sOf bs true bs.length = [] := by
      by_cases e : sOf bs true bs.length = []
      · exact .inr e
      · refine .inl (List.Pairwise.filter _ ?_)
        show List.Nodup _
        rw [List.nodup_cons]
        refine ⟨fun z => ?_, by simp⟩
        have z : sOf bs true bs.length = sOf bs false bs.length := by simpa using z
        obtain ⟨x, hx⟩ := List.exists_mem_of_ne_nil _ e
        have h1 := (sOf_mem.mp hx).2
        rw [z] at hx
        have h2 := (sOf_mem.mp hx).2
        rw [h1] at h2
        cases h2
    have gg : g = g' := by
      obtain ⟨_, b, rfl⟩ := mm g (List.mem_of_getElem? hg)
      obtain ⟨_, b', rfl⟩ := mm g' (List.mem_of_getElem? hg')
      have h1 := (sOf_mem.mp hsg).2
      have h2 := (sOf_mem.mp hsg').2
      rw [h1] at h2
      cases h2
      rfl
    subst gg
    rcases key with key | key
    · exact nd_ix key hg hg'
    · have : (([sOf bs true bs.length, sOf bs false bs.length]).filter fun g => decide (g ≠ [])).length ≤ 1 := by
        rw [List.filter_cons, if_neg (by simp [key])]
        exact Nat.le_trans (List.length_filter_le _ _) (by simp)
      have a := (List.getElem?_eq_some_iff.mp hg).1
      have b := (List.getElem?_eq_some_iff.mp hg').1
      omega
section
variable {P : Program} {w : World} {K : PySem.W.Frag} {mg : Str → Option Value} {base : Heap}
def sp_first_groups : Sp := fun vs H Q _ => ∃ (e : Addr) (bs : List Bool), vs = [.ref e] ∧ H e = some (.lst (bs.map V.bl)) ∧ bs.length ≤ 1000000 ∧ ∀ H' gr as gs, Same H H' → H gr = none → (∀ a ∈ as, H a = none) → GrpAt H' gr as gs → Pre bs gs → Q (.ref gr) H'
theorem bool_at {bs : List Bool} {i : Nat} {x : V} (h : (bs.map V.bl)[i]? = some x) : ∃ b, bs[i]? = some b ∧ x = .bl b := by
  rw [List.getElem?_map] at h
  cases e : bs[i]? with
  | none =>
    rw [e] at h
    cases h
  | some s =>
    rw [e] at h
    cases h
    exact ⟨s, rfl, rfl⟩
end
end LH

namespace LH
open PySem PySem.Spec PyProof.Rows L2
/-! ### like states -/
def runs (rows : List (List Nat)) (s : Nat) (w : List Nat) : Nat := w.foldl (dl rows) s
def Eqv (rows : List (List Nat)) (bs : List Bool) (L s t : Nat) : Prop := ∀ w : List Nat, (∀ c ∈ w, c < L) → bs[runs rows s w]? = bs[runs rows t w]?
theorem Eqv.step {rows : List (List Nat)} {bs : List Bool} {L s t c : Nat} (h : Eqv rows bs L s t) (hc : c < L) : Eqv rows bs L (dl rows s c) (dl rows t c) := fun w hw => h (c :: w) fun d hd => by
  rcases List.mem_cons.mp hd with rfl | hd
  · exact hc
  · exact hw d hd
structure PInv (rows : List (List Nat)) (bs : List Bool) (n L a : Nat) (gs : List (List Nat)) (hl : List Nat) : Prop where
  part : Part n gs hl
  co : ∀ s t, s < n → t < n → Eqv rows bs L s t → hl[s]? = hl[t]?
  fin : ∀ s t, s < n → t < n → hl[s]? = hl[t]? → bs[s]? = bs[t]?
  st : ∀ s t c p q, s < n → t < n → c < L → hl[s]? = hl[t]? → hl[dl rows s c]? = some p → hl[dl rows t c]? = some q → p < a → q < a → p = q
theorem PInv.last {rows : List (List Nat)} {bs : List Bool} {n L a : Nat} {gs : List (List Nat)} {hl : List Nat} (k : TabOk n L rows) (h : PInv rows bs n L a gs hl) (ha : gs.length ≤ a) : ∀ s t, s < n → t < n → (hl[s]? = hl[t]? ↔ Eqv rows bs L s t) := by
  intro s t hs ht
  refine ⟨fun e w => ?_, h.co s t hs ht⟩
  induction w generalizing s t with
  | nil => exact fun _ => h.fin s t hs ht e
  | cons c w ih =>
    intro hw
    have hc := hw c (List.mem_cons_self ..)
    have h1 := k.dl_lt hs hc
    have h2 := k.dl_lt ht hc
    have l1 : dl rows s c < hl.length := by rw [h.part.len]; exact h1
    have l2 : dl rows t c < hl.length := by rw [h.part.len]; exact h2
    have g1 : hl[dl rows s c]? = some hl[dl rows s c] := List.getElem?_eq_getElem l1
    have g2 : hl[dl rows t c]? = some hl[dl rows t c] := List.getElem?_eq_getElem l2
    have := h.st s t c _ _ hs ht hc e g1 g2 (Nat.lt_of_lt_of_le (h.part.lt _ _ g1) ha) (Nat.lt_of_lt_of_le (h.part.lt _ _ g2) ha)
    exact ih _ _ h1 h2 (by rw [g1, g2, this]) fun d hd => hw d (List.mem_cons_of_mem _ hd)
structure Ref (n k : Nat) (hl0 hl : List Nat) : Prop where
  fine : ∀ s t, s < n → t < n → hl[s]? = hl[t]? → hl0[s]? = hl0[t]?
  low : ∀ (s h : Nat), hl[s]? = some h → h < k → hl0[s]? = some h
theorem Ref.refl (n k : Nat) (hl : List Nat) : Ref n k hl hl := ⟨fun _ _ _ _ h => h, fun _ _ h _ => h⟩
theorem Ref.trans {n k k' : Nat} {a b c : List Nat} (h : Ref n k a b) (h' : Ref n k' b c) (l : k ≤ k') : Ref n k a c := ⟨fun s t hs ht e => h.fine s t hs ht (h'.fine s t hs ht e), fun s x e lt => h.low s x (h'.low s x e (by omega)) lt⟩
theorem Split.ref {n home : Nat} {gs gs' : List (List Nat)} {hl hl' hit : List Nat} (p : Part n gs hl) (h : Split n gs gs' hl hl' home hit) : Ref n gs.length hl hl' := by
  obtain ⟨B, hB, _⟩ := h.map
  refine ⟨fun s t hs ht e => ?_, fun s x e lt => ?_⟩
  · rw [hB s, hB t] at e
    by_cases c1 : hl[s]? = some home ∧ B s = true
    · rw [if_pos c1] at e
      by_cases c2 : hl[t]? = some home ∧ B t = true
      · rw [c1.1, c2.1]
      · rw [if_neg c2] at e
        exact absurd (p.lt t _ e.symm) (Nat.lt_irrefl _)
    · rw [if_neg c1] at e
      by_cases c2 : hl[t]? = some home ∧ B t = true
      · rw [if_pos c2] at e
        exact absurd (p.lt s _ e) (Nat.lt_irrefl _)
      · rw [if_neg c2] at e
        exact e
  · rw [hB s] at e
    by_cases c1 : hl[s]? = some home ∧ B s = true
    · rw [if_pos c1] at e
      cases e
      omega
    · rw [if_neg c1] at e
      exact e
/-- two states of one new group: both hit or none -/
theorem Split.sep {n home : Nat} {gs gs' : List (List Nat)} {hl hl' hit : List Nat} (p : Part n gs hl) (h : Split n gs gs' hl hl' home hit) {s t : Nat} (hs : s < n) (ht : t < n) (e : hl'[s]? = hl'[t]?) (hh : hl[s]? = some home) : (s ∈ hit ↔ t ∈ hit) := by
  have ht' : hl[t]? = some home := by rw [← (h.ref p).fine s t hs ht e]; exact hh
  obtain ⟨B, hB, hc⟩ := h.map
  have bb : B s = true ↔ B t = true := by
    rw [hB s, hB t] at e
    by_cases c1 : B s = true
    · rw [if_pos ⟨hh, c1⟩] at e
      by_cases c2 : B t = true
      · exact ⟨fun _ => c2, fun _ => c1⟩
      · rw [if_neg (fun z => c2 z.2)] at e
        exact absurd (p.lt t _ e.symm) (Nat.lt_irrefl _)
    · rw [if_neg (fun z => c1 z.2)] at e
      by_cases c2 : B t = true
      · rw [if_pos ⟨ht', c2⟩] at e
        exact absurd (p.lt s _ e) (Nat.lt_irrefl _)
      · exact ⟨fun z => absurd z c1, fun z => absurd z c2⟩
  rcases hc with hc | hc
  · rw [← hc s hh, ← hc t ht', bb]
  · have h1 := hc s hh
    have h2 := hc t ht'
    by_cases q1 : s ∈ hit
    · by_cases q2 : t ∈ hit
      · exact ⟨fun _ => q2, fun _ => q1⟩
      · exact absurd q1 (h1.mp (bb.mpr (h2.mpr q2)))
    · by_cases q2 : t ∈ hit
      · exact absurd q2 (h2.mp (bb.mp (h1.mpr q1)))
      · exact ⟨fun z => absurd z q1, fun z => absurd z q2⟩
theorem Split.stay {n home : Nat} {gs gs' : List (List Nat)} {hl hl' hit : List Nat} (h : Split n gs gs' hl hl' home hit) {s x : Nat} (e : hl[s]? = some x) (ne : x ≠ home) : hl'[s]? = some x := by
  obtain ⟨B, hB, _⟩ := h.map
  rw [hB s, if_neg (fun z => ne (by rw [e] at z; exact Option.some.inj z.1))]
  exact e
theorem Split.co {n home : Nat} {gs gs' : List (List Nat)} {hl hl' hit : List Nat} (h : Split n gs gs' hl hl' home hit) {s t : Nat} (e : hl[s]? = hl[t]?) (hst : hl[s]? = some home → (s ∈ hit ↔ t ∈ hit)) : hl'[s]? = hl'[t]? := by
  obtain ⟨B, hB, hc⟩ := h.map
  rw [hB s, hB t]
  by_cases c : hl[s]? = some home
  · have c' : hl[t]? = some home := by rw [← e]; exact c
    have bb : B s = true ↔ B t = true := by
      rcases hc with hc | hc
      · rw [hc s c, hc t c', hst c]
      · rw [hc s c, hc t c', hst c]
    by_cases b : B s = true
    · rw [if_pos ⟨c, b⟩, if_pos ⟨c', bb.mp b⟩]
    · rw [if_neg (fun z => b z.2), if_neg (fun z => b (bb.mpr z.2)), e]
  · rw [if_neg (fun z => c z.1), if_neg (fun z => c (by rw [e]; exact z.1)), e]
/-- within a letter: the homes told so far are parted -/
structure HInv (rows : List (List Nat)) (bs : List Bool) (n L k1 : Nat) (hl1 F : List Nat) (es : List Ent) (j : Nat) (gs : List (List Nat)) (hl : List Nat) : Prop where
  part : Part n gs hl
  co : ∀ s t, s < n → t < n → Eqv rows bs L s t → hl[s]? = hl[t]?
  ref : Ref n k1 hl1 hl
  kept : ∀ (s h : Nat), hl1[s]? = some h → (∀ (i : Nat) (e : Ent), i < j → es[i]? = some e → e.1 ≠ h) → hl[s]? = some h
  sep : ∀ s t, s < n → t < n → hl[s]? = hl[t]? → (∃ (i : Nat) (e : Ent), i < j ∧ es[i]? = some e ∧ hl1[s]? = some e.1) → (s ∈ F ↔ t ∈ F)
  grow : k1 ≤ gs.length
theorem HInv.step {rows : List (List Nat)} {bs : List Bool} {n L k1 j : Nat} {hl1 F : List Nat} {es : List Ent} {gs gs' : List (List Nat)} {hl hl' : List Nat} {e : Ent} (h : HInv rows bs n L k1 hl1 F es j gs hl) (he : es[j]? = some e) (nd : (es.map (·.1)).Nodup) (hx : e.2.2 = F.filter fun s => decide (hl1[s]? = some e.1))
    (cl : ∀ s t, s < n → t < n → Eqv rows bs L s t → (s ∈ F ↔ t ∈ F)) (sp : Split n gs gs' hl hl' e.1 e.2.2) : HInv rows bs n L k1 hl1 F es (j + 1) gs' hl' := by
  have keyne : ∀ (i : Nat) (e' : Ent), i < j → es[i]? = some e' → e'.1 ≠ e.1 := fun i e' hi hi' z => by
    have a : (es.map (·.1))[i]? = some e'.1 := by rw [List.getElem?_map, hi']; rfl
    have b : (es.map (·.1))[j]? = some e'.1 := by rw [List.getElem?_map, he, z]; rfl
    have := nd_ix nd a b
    omega
  have mem : ∀ s, hl1[s]? = some e.1 → (s ∈ e.2.2 ↔ s ∈ F) := fun s hs => by
    rw [hx, List.mem_filter]
    exact ⟨fun z => z.1, fun z => ⟨z, decide_eq_true hs⟩⟩
  have back : ∀ s, hl[s]? = some e.1 → e.1 < k1 → hl1[s]? = some e.1 := fun s hs lt => h.ref.low s _ hs lt
  have r2 := sp.ref h.part
  refine ⟨sp.part, fun s t hs ht q => sp.co (h.co s t hs ht q) fun hh => ?_, h.ref.trans r2 h.grow, fun s x hs hn => ?_, fun s t hs ht q hi => ?_, Nat.le_trans h.grow sp.grow⟩
  · rw [hx, List.mem_filter, List.mem_filter, cl s t hs ht q]
    have f1 := h.ref.fine s t hs ht (h.co s t hs ht q)
    rw [f1]
  · refine sp.stay (h.kept s x hs fun i e' hi hi' => hn i e' (by omega) hi') fun z => ?_
    exact hn j e (Nat.lt_succ_self j) he z.symm
  · have q' := r2.fine s t hs ht q
    obtain ⟨i, e', hi, hi', hs'⟩ := hi
    by_cases c : i < j
    · exact h.sep s t hs ht q' ⟨i, e', c, hi', hs'⟩
    · have : i = j := by omega
      subst this
      rw [he] at hi'
      cases hi'
      have hs2 : hl[s]? = some e.1 := h.kept s _ hs' fun i e' hi hi' => keyne i e' hi hi'
      have := sp.sep h.part hs ht q hs2
      rw [mem s hs', mem t (by rw [← h.ref.fine s t hs ht q']; exact hs')] at this
      exact this
/-- by letters: behind c of them the targets are told apart -/
structure LInv (rows : List (List Nat)) (bs : List Bool) (n L k0 : Nat) (hl0 g : List Nat) (c : Nat) (gs : List (List Nat)) (hl : List Nat) : Prop where
  part : Part n gs hl
  co : ∀ s t, s < n → t < n → Eqv rows bs L s t → hl[s]? = hl[t]?
  ref : Ref n k0 hl0 hl
  sep : ∀ s t a, s < n → t < n → hl[s]? = hl[t]? → a < c → (dl rows s a ∈ g ↔ dl rows t a ∈ g)
  grow : k0 ≤ gs.length
theorem HInv.last {rows : List (List Nat)} {bs : List Bool} {n L k0 c : Nat} {hl0 hl1 g F : List Nat} {es : List Ent} {gs1 gs : List (List Nat)} {hl : List Nat} (l : LInv rows bs n L k0 hl0 g c gs1 hl1) (h : HInv rows bs n L gs1.length hl1 F es es.length gs hl) (hF : ∀ s, s ∈ F ↔ s < n ∧ dl rows s c ∈ g)
    (all : ∀ s ∈ F, ∃ e ∈ es, hl1[s]? = some e.1) : LInv rows bs n L k0 hl0 g (c + 1) gs hl := by
  refine ⟨h.part, h.co, l.ref.trans h.ref l.grow, fun s t a hs ht q ha => ?_, Nat.le_trans l.grow h.grow⟩
  have q1 := h.ref.fine s t hs ht q
  by_cases e : a < c
  · exact l.sep s t a hs ht q1 e
  · have : a = c := by omega
    subst this
    have key : s ∈ F ↔ t ∈ F := by
      by_cases z : ∃ (i : Nat) (e : Ent), i < es.length ∧ es[i]? = some e ∧ hl1[s]? = some e.1
      · exact h.sep s t hs ht q z
      · refine ⟨fun y => ?_, fun y => ?_⟩
        · obtain ⟨e, he, q2⟩ := all s y
          obtain ⟨i, hi⟩ := List.mem_iff_getElem?.mp he
          exact absurd ⟨i, e, (List.getElem?_eq_some_iff.mp hi).1, hi, q2⟩ z
        · obtain ⟨e, he, q2⟩ := all t y
          obtain ⟨i, hi⟩ := List.mem_iff_getElem?.mp he
          exact absurd ⟨i, e, (List.getElem?_eq_some_iff.mp hi).1, hi, by rw [q1]; exact q2⟩ z
    rw [hF s, hF t] at key
    exact ⟨fun z => (key.mp ⟨hs, z⟩).2, fun z => (key.mpr ⟨ht, z⟩).2⟩
theorem LInv.last {rows : List (List Nat)} {bs : List Bool} {n L a : Nat} {hl0 g : List Nat} {gs0 gs : List (List Nat)} {hl : List Nat} (p : PInv rows bs n L a gs0 hl0) (ha : gs0[a]? = some g) (l : LInv rows bs n L gs0.length hl0 g L gs hl) : PInv rows bs n L (a + 1) gs hl := by
  have hlt : a < gs0.length := (List.getElem?_eq_some_iff.mp ha).1
  refine ⟨l.part, l.co, fun s t hs ht q => p.fin s t hs ht (l.ref.fine s t hs ht q), fun s t c x y hs ht hc q hx hy lx ly => ?_⟩
  have hx0 := l.ref.low _ _ hx (by omega)
  have hy0 := l.ref.low _ _ hy (by omega)
  have sp := l.sep s t c hs ht q hc
  rw [p.part.mem a g ha, p.part.mem a g ha, hx0, hy0] at sp
  by_cases e1 : x = a
  · rw [e1] at sp
    have := sp.mp rfl
    rw [e1]
    exact (Option.some.inj this).symm
  · by_cases e2 : y = a
    · rw [e2] at sp
      exact absurd (Option.some.inj (sp.mpr rfl)) e1
    · exact p.st s t c x y hs ht hc (l.ref.fine s t hs ht q) hx0 hy0 (by omega) (by omega)
theorem flat_mem {rows : List (List Nat)} {n L c : Nat} {g : List Nat} (k : TabOk n L rows) (hc : c < L) (hg : ∀ s ∈ g, s < n) : ∀ s, s ∈ flat ((List.range n).map (bkF rows n c)) g ↔ s < n ∧ dl rows s c ∈ g := fun s => by
  have wd : ∀ t, t < n → ((List.range n).map (bkF rows n c)).getD t [] = bkF rows n c t := fun t ht => by
    rw [List.getD_eq_getElem?_getD, List.getElem?_map, List.getElem?_range ht]
    rfl
  have bm : ∀ t, s ∈ bkF rows n c t ↔ s < n ∧ dl rows s c = t := fun t => by
    unfold bkF
    rw [List.mem_filter, List.mem_range, decide_eq_true_iff]
  unfold flat
  rw [List.mem_flatten]
  constructor
  · rintro ⟨l, hl, hs⟩
    obtain ⟨t, ht, rfl⟩ := List.mem_map.mp hl
    rw [wd t (hg t ht), bm t] at hs
    exact ⟨hs.1, by rw [hs.2]; exact ht⟩
  · intro h
    exact ⟨_, List.mem_map.mpr ⟨_, h.2, rfl⟩, by rw [wd _ (hg _ h.2), bm]; exact ⟨h.1, rfl⟩⟩
theorem flat_nd {rows : List (List Nat)} {n c : Nat} : ∀ {g : List Nat}, g.Nodup → (∀ s ∈ g, s < n) → (flat ((List.range n).map (bkF rows n c)) g).Nodup
  | [], _, _ => List.nodup_nil
  | t :: r, nd, hg => by
    have wd : ∀ t, t < n → ((List.range n).map (bkF rows n c)).getD t [] = bkF rows n c t := fun t ht => by
      rw [List.getD_eq_getElem?_getD, List.getElem?_map, List.getElem?_range ht]
      rfl
    have nd' := List.nodup_cons.mp nd
    show (((List.range n).map (bkF rows n c)).getD t [] ++ flat ((List.range n).map (bkF rows n c)) r).Nodup
    rw [wd t (hg t (List.mem_cons_self ..)), List.nodup_append]
    refine ⟨List.nodup_range.filter _, flat_nd nd'.2 fun s hs => hg s (List.mem_cons_of_mem _ hs), fun x hx y hy e => ?_⟩
    subst e
    unfold flat at hy
    obtain ⟨l, hl, hs⟩ := List.mem_flatten.mp hy
    obtain ⟨t', ht', rfl⟩ := List.mem_map.mp hl
    rw [wd t' (hg t' (List.mem_cons_of_mem _ ht'))] at hs
    have a := of_decide_eq_true (List.mem_filter.mp hx).2
    have b := of_decide_eq_true (List.mem_filter.mp hs).2
    exact nd'.1 (by rw [← a, b]; exact ht')
end LH

namespace LH
open PySem PySem.Spec PyProof.Rows L2
theorem find_nd {es : List Ent} {j : Nat} {e : Ent} (nd : (es.map (·.1)).Nodup) (h : es[j]? = some e) : (es.find? fun x => decide (x.1 = e.1)) = some e := by
  induction es generalizing j with
  | nil => simp at h
  | cons a r ih =>
    rw [List.map_cons, List.nodup_cons] at nd
    rw [List.find?_cons]
    cases j with
    | zero =>
      cases h
      simp
    | succ j =>
      have h' : r[j]? = some e := by simpa using h
      have hne : ¬ a.1 = e.1 := fun z => nd.1 (by rw [z]; exact List.mem_map.mpr ⟨e, List.mem_of_getElem? h', rfl⟩)
      simp only [hne, decide_false]
      exact ih nd.2 h'
theorem ek_get {es : List Ent} {i : Nat} {k : Key} {v : V} (h : (ek es)[i]? = some (k, v)) : ∃ e, es[i]? = some e ∧ k = Sum.inl (e.1 : Int) ∧ v = .ref e.2.1 := by
  rw [List.getElem?_map] at h
  cases e : es[i]? with
  | none =>
    rw [e] at h
    cases h
  | some s =>
    rw [e] at h
    cases h
    exact ⟨s, rfl, rfl, rfl⟩
theorem BK.off {H H' : Hp} {bk gr ho : Addr} {cs as : List Addr} {bss : List (List Addr)} {gs : List (List Nat)} {n : Nat} {F : Nat → Nat → List Nat} (h : BK H bk cs bss n F) (G : GrpAt H gr as gs) (nB : ∀ b, b = bk ∨ b ∈ cs ∨ b ∈ bss.flatten → b ≠ gr ∧ b ≠ ho) (off : OffG gr ho as H H') : BK H' bk cs bss n F := by
  have key : ∀ b xs, (b = bk ∨ b ∈ cs ∨ b ∈ bss.flatten) → H b = some (.lst xs) → H' b = some (.lst xs) := fun b xs hb e => off b _ (nB b hb).1 (nB b hb).2 (G.not e (by intro g z; cases z)) e
  refine ⟨key _ _ (.inl rfl) h.top, h.len, fun c a bs x y => ?_, fun c t bs b x y => ?_, h.nd⟩
  · obtain ⟨z1, z2⟩ := h.col c a bs x y
    exact ⟨key _ _ (.inr (.inl (List.mem_of_getElem? x))) z1, z2⟩
  · exact key _ _ (.inr (.inr (List.mem_flatten.mpr ⟨bs, List.mem_of_getElem? x, List.mem_of_getElem? y⟩))) (h.cell c t bs b x y)
theorem BK.lol {H : Hp} {bk : Addr} {cs : List Addr} {bss : List (List Addr)} {n : Nat} {F : Nat → Nat → List Nat} (h : BK H bk cs bss n F) {c : Nat} {a : Addr} (ha : cs[c]? = some a) : ∃ bs, LolAt H a bs ((List.range n).map (F c)) := by
  have hc : c < bss.length := by
    rw [← h.len]
    exact (List.getElem?_eq_some_iff.mp ha).1
  obtain ⟨z1, z2⟩ := h.col c a _ ha (List.getElem?_eq_getElem hc)
  refine ⟨bss[c], z1, by rw [List.length_map, List.length_range]; exact z2, fun t b w x y => ?_⟩
  have ht : t < n := by
    have := (List.getElem?_eq_some_iff.mp x).1
    omega
  rw [List.getElem?_map, List.getElem?_range ht] at y
  cases y
  exact h.cell c t _ b (List.getElem?_eq_getElem hc) x
theorem PInv.start {rows : List (List Nat)} {bs : List Bool} {n L : Nat} {gs : List (List Nat)} {hl : List Nat} (pr : Pre bs gs) (hn : bs.length = n) (len : hl.length = n) (hh : ∀ (s h : Nat) (g : List Nat), gs[h]? = some g → s ∈ g → hl[s]? = some h) : PInv rows bs n L 0 gs hl := by
  have bk : ∀ (s h : Nat), hl[s]? = some h → ∃ g, gs[h]? = some g ∧ s ∈ g := fun s h e => by
    have hs : s < n := by
      rw [← len]
      exact (List.getElem?_eq_some_iff.mp e).1
    obtain ⟨h', g, hg, hm⟩ := pr.ex s (by omega)
    have := hh s h' g hg hm
    rw [e] at this
    cases this
    exact ⟨g, hg, hm⟩
  have part : Part n gs hl := ⟨len, fun h g hg s => ⟨fun z => hh s h g hg z, fun z => by
      obtain ⟨g', hg', hm⟩ := bk s h z
      rw [hg] at hg'
      cases hg'
      exact hm⟩, fun s h e => by
      obtain ⟨g, hg, _⟩ := bk s h e
      exact (List.getElem?_eq_some_iff.mp hg).1, fun g hg => (pr.nd g hg).1, fun g hg => (pr.nd g hg).2⟩
  refine ⟨part, fun s t hs ht e => ?_, fun s t hs ht e => ?_, fun s t c p q _ _ _ _ _ _ lp _ => absurd lp (Nat.not_lt_zero p)⟩
  · obtain ⟨h, g, hg, hm⟩ := pr.ex s (by omega)
    have e0 : bs[s]? = bs[t]? := e [] (fun _ h => nomatch h)
    have hm' : t ∈ g := ((pr.same g (List.mem_of_getElem? hg) s hm).2 t (by omega)).mpr e0.symm
    rw [hh s h g hg hm, hh t h g hg hm']
  · obtain ⟨h, g, hg, hm⟩ := pr.ex s (by omega)
    have es := hh s h g hg hm
    rw [es] at e
    obtain ⟨g', hg', hm'⟩ := bk t h e.symm
    rw [hg] at hg'
    cases hg'
    exact (((pr.same g (List.mem_of_getElem? hg) s hm).2 t (by omega)).mp hm').symm
section
variable {P : Program} {w : World} {K : PySem.W.Frag} {mg : Str → Option Value} {base : Heap}
def sp_parted : Sp := fun vs H Q _ => ∃ (tb e : Addr) (ras : List Addr) (rows : List (List Nat)) (bs : List Bool) (n L : Nat), vs = [.ref tb, .ref e] ∧ LolAt H tb ras rows ∧ TabOk n L rows ∧ H e = some (.lst (bs.map V.bl)) ∧ bs.length = n ∧
  ∀ H' ho hl, Same H H' → H ho = none → H' ho = some (.lst (vi hl)) → hl.length = n → (∀ s t, s < n → t < n → (hl[s]? = hl[t]? ↔ Eqv rows bs L s t)) → Q (.ref ho) H'
end
end LH

namespace LH
open PySem PySem.Spec PyProof.Rows L2
/-! ### merged: one state for each home -/
def isHead (hl : List Nat) (s : Nat) : Bool := (List.range s).all fun t => decide (hl[t]? ≠ hl[s]?)
def headsOf (hl : List Nat) (i : Nat) : List Nat := (List.range i).filter (isHead hl)
/-- the number of a state's home: how many heads stand ahead of its own -/
def numOf (hl : List Nat) (s : Nat) : Nat := (headsOf hl hl.length).findIdx fun h => decide (hl[h]? = hl[s]?)
theorem isHead_iff {hl : List Nat} {s : Nat} : isHead hl s = true ↔ ∀ t, t < s → hl[t]? ≠ hl[s]? := by
  unfold isHead
  rw [List.all_eq_true]
  exact ⟨fun h t ht => of_decide_eq_true (h t (List.mem_range.mpr ht)), fun h t ht => decide_eq_true (h t (List.mem_range.mp ht))⟩
theorem heads_mem {hl : List Nat} {i s : Nat} : s ∈ headsOf hl i ↔ s < i ∧ ∀ t, t < s → hl[t]? ≠ hl[s]? := by
  unfold headsOf
  rw [List.mem_filter, List.mem_range, isHead_iff]
theorem heads_succ (hl : List Nat) (i : Nat) : headsOf hl (i + 1) = if isHead hl i = true then headsOf hl i ++ [i] else headsOf hl i := by
  unfold headsOf
  rw [List.range_succ, List.filter_append]
  by_cases e : isHead hl i = true
  · rw [if_pos e]
    simp [e]
  · rw [if_neg e]
    simp [e]
theorem heads_rise (hl : List Nat) (i : Nat) : (headsOf hl i).Pairwise (· < ·) := List.Pairwise.filter _ List.pairwise_lt_range
/-- every state has its head -/
theorem head_ex (hl : List Nat) : ∀ (s i : Nat), s < i → ∃ h ∈ headsOf hl i, h ≤ s ∧ hl[h]? = hl[s]? := by
  intro s
  induction s using Nat.strongRecOn with
  | ind s ih =>
    intro i hi
    by_cases e : ∀ t, t < s → hl[t]? ≠ hl[s]?
    · exact ⟨s, heads_mem.mpr ⟨hi, e⟩, Nat.le_refl _, rfl⟩
    · obtain ⟨t, ht, q⟩ : ∃ t, t < s ∧ hl[t]? = hl[s]? := by
        by_cases z : ∃ t, t < s ∧ hl[t]? = hl[s]?
        · exact z
        · exact absurd (fun t ht q => z ⟨t, ht, q⟩) e
      obtain ⟨h, hh, le, q'⟩ := ih t ht i (by omega)
      exact ⟨h, hh, by omega, q'.trans q⟩
theorem head_uniq {hl : List Nat} {i h h' : Nat} (a : h ∈ headsOf hl i) (b : h' ∈ headsOf hl i) (e : hl[h]? = hl[h']?) : h = h' := by
  obtain ⟨_, a2⟩ := heads_mem.mp a
  obtain ⟨_, b2⟩ := heads_mem.mp b
  rcases Nat.lt_trichotomy h h' with z | z | z
  · exact absurd e (b2 h z)
  · exact z
  · exact absurd e.symm (a2 h' z)
theorem num_spec {hl : List Nat} {s : Nat} (hs : s < hl.length) : ∃ h, (headsOf hl hl.length)[numOf hl s]? = some h ∧ h ≤ s ∧ hl[h]? = hl[s]? := by
  obtain ⟨h, hh, le, q⟩ := head_ex hl s hl.length hs
  have hex : ∃ x ∈ headsOf hl hl.length, decide (hl[x]? = hl[s]?) = true := ⟨h, hh, decide_eq_true q⟩
  have hlt := List.findIdx_lt_length_of_exists hex
  have hp := List.findIdx_getElem (w := hlt)
  have hp := of_decide_eq_true hp
  refine ⟨_, List.getElem?_eq_getElem hlt, ?_, hp⟩
  have := head_uniq (List.getElem_mem hlt) hh (hp.trans q.symm)
  rw [this]
  exact le
theorem num_of_head {hl : List Nat} {k h : Nat} (hk : (headsOf hl hl.length)[k]? = some h) : numOf hl h = k := by
  have hm := List.mem_of_getElem? hk
  obtain ⟨h', e1, _, e2⟩ := num_spec (heads_mem.mp hm).1
  have := head_uniq (List.mem_of_getElem? e1) hm e2
  subst this
  have nd : (headsOf hl hl.length).Nodup := (heads_rise hl hl.length).imp fun h => Nat.ne_of_lt h
  exact nd_ix nd e1 hk
theorem num_eq {hl : List Nat} {s t : Nat} (hs : s < hl.length) (ht : t < hl.length) : numOf hl s = numOf hl t ↔ hl[s]? = hl[t]? := by
  constructor
  · intro e
    obtain ⟨h, a1, _, a2⟩ := num_spec hs
    obtain ⟨h', b1, _, b2⟩ := num_spec ht
    rw [e] at a1
    rw [a1] at b1
    cases b1
    exact a2.symm.trans b2
  · intro e
    unfold numOf
    rw [e]
def mRows (rows : List (List Nat)) (hl : List Nat) : List (List Nat) := (headsOf hl hl.length).map fun h => (rows.getD h []).map (numOf hl)
def mEnds (bs : List Bool) (hl : List Nat) : List Nat := (List.range (headsOf hl hl.length).length).filter fun k => decide (bs[(headsOf hl hl.length).getD k 0]? = some true)
abbrev nk (hs hl : List Nat) : List (Key × V) := hs.zipIdx.map fun (p : Nat × Nat) => (Sum.inl ((hl.getD p.1 0 : Nat) : Int), V.int (p.2 : Int))
theorem nk_snoc (hs hl : List Nat) (s : Nat) : nk (hs ++ [s]) hl = nk hs hl ++ [(Sum.inl ((hl.getD s 0 : Nat) : Int), V.int (hs.length : Int))] := by
  show List.map _ (hs ++ [s]).zipIdx = _
  rw [List.zipIdx_append, List.map_append]
  simp
theorem valV_nkk {hl : List Nat} (x : Nat) : ∀ (hs : List Nat) (k : Nat), valV ((hs.zipIdx k).map fun (p : Nat × Nat) => ((Sum.inl ((hl.getD p.1 0 : Nat) : Int) : Key), V.int (p.2 : Int))) (Sum.inl (x : Int) : Key) = if (hs.any fun h => decide (hl.getD h 0 = x)) = true then some (.int ((k + hs.findIdx fun h => decide (hl.getD h 0 = x) : Nat) : Int)) else none
  | [], _ => rfl
  | h :: r, k => by
    rw [List.zipIdx_cons, List.map_cons, List.any_cons, List.findIdx_cons]
    by_cases q : hl.getD h 0 = x
    · rw [valV_pos (by show (Sum.inl ((hl.getD h 0 : Nat) : Int) : Key) = _; rw [q])]
      simp only [q, decide_true, Bool.true_or, if_true, cond_true, Nat.add_zero]
    · have ne : ¬ (((h, k) : Nat × Nat) |> fun p => ((Sum.inl ((hl.getD p.1 0 : Nat) : Int) : Key), V.int (p.2 : Int))).1 = (Sum.inl (x : Int) : Key) := fun z => q (by
        have z1 : ((hl.getD h 0 : Nat) : Int) = (x : Int) := Sum.inl.inj z
        exact Int.ofNat.inj z1)
      rw [valV_neg ne, valV_nkk x r (k + 1)]
      simp only [q, decide_false, Bool.false_or, cond_false]
      by_cases e : (r.any fun h => decide (hl.getD h 0 = x)) = true
      · rw [if_pos e, if_pos e]
        congr 2
        omega
      · rw [if_neg e, if_neg e]
theorem valV_nk {hl : List Nat} (x : Nat) (hs : List Nat) : valV (nk hs hl) (Sum.inl (x : Int) : Key) = if (hs.any fun h => decide (hl.getD h 0 = x)) = true then some (.int ((hs.findIdx fun h => decide (hl.getD h 0 = x) : Nat) : Int)) else none := by
  have := valV_nkk (hl := hl) x hs 0
  rw [Nat.zero_add] at this
  exact this
end LH

namespace LH
open PySem PySem.Spec PyProof.Rows L2
theorem findIdx_congr' {α : Type} {p q : α → Bool} : ∀ {xs : List α}, (∀ x ∈ xs, p x = q x) → xs.findIdx p = xs.findIdx q
  | [], _ => rfl
  | x :: r, h => by
    rw [List.findIdx_cons, List.findIdx_cons, h x (List.mem_cons_self ..), findIdx_congr' fun y hy => h y (List.mem_cons_of_mem _ hy)]
theorem getD_iff {hl : List Nat} {h x : Nat} (hh : h < hl.length) : hl.getD h 0 = x ↔ hl[h]? = some x := by
  rw [List.getD_eq_getElem?_getD, List.getElem?_eq_getElem hh]
  simp
theorem heads_any {hl : List Nat} {i x : Nat} (hi : hl[i]? = some x) : ((headsOf hl i).any fun h => decide (hl.getD h 0 = x)) = !isHead hl i := by
  have hil := (List.getElem?_eq_some_iff.mp hi).1
  rw [Bool.eq_iff_iff, List.any_eq_true, Bool.not_eq_true', Bool.eq_false_iff]
  constructor
  · rintro ⟨h, hm, hd⟩ z
    have hm' := (heads_mem.mp hm).1
    exact isHead_iff.mp z h hm' (by rw [(getD_iff (by omega)).mp (of_decide_eq_true hd), hi])
  · intro z
    obtain ⟨t, ht, q⟩ : ∃ t, t < i ∧ hl[t]? = hl[i]? := by
      by_cases y : ∃ t, t < i ∧ hl[t]? = hl[i]?
      · exact y
      · exact absurd (isHead_iff.mpr fun t ht q => y ⟨t, ht, q⟩) z
    obtain ⟨h, hm, le, q'⟩ := head_ex hl t i ht
    refine ⟨h, hm, decide_eq_true ((getD_iff ?_).mpr ?_)⟩
    · have := (heads_mem.mp hm).1
      omega
    · rw [q', q, hi]
theorem num_find {hl : List Nat} {t x : Nat} (ht : hl[t]? = some x) : valV (nk (headsOf hl hl.length) hl) (Sum.inl (x : Int) : Key) = some (.int (numOf hl t : Nat)) := by
  have htl := (List.getElem?_eq_some_iff.mp ht).1
  have congr_ : ∀ h ∈ headsOf hl hl.length, decide (hl.getD h 0 = x) = decide (hl[h]? = hl[t]?) := fun h hm => by
    rw [ht]
    have := (heads_mem.mp hm).1
    rw [Bool.eq_iff_iff, decide_eq_true_iff, decide_eq_true_iff, getD_iff this]
  obtain ⟨h, hm, _, q⟩ := head_ex hl t hl.length htl
  rw [valV_nk, if_pos]
  · rw [findIdx_congr' congr_]
    rfl
  · exact List.any_eq_true.mpr ⟨h, hm, by rw [congr_ h hm]; exact decide_eq_true q⟩
theorem heads_len (hl : List Nat) (i : Nat) : (headsOf hl i).length ≤ i := by
  unfold headsOf
  refine Nat.le_trans (List.length_filter_le _ _) ?_
  rw [List.length_range]
  exact Nat.le_refl _
theorem nk_len (hs hl : List Nat) : (nk hs hl).length = hs.length := by
  show (List.map _ _).length = _
  rw [List.length_map, List.length_zipIdx]
section
variable {P : Program} {w : World} {K : PySem.W.Frag} {mg : Str → Option Value} {base : Heap}
def sp_merged : Sp := fun vs H Q _ => ∃ (z : Str) (tb e ho : Addr) (ras : List Addr) (rows : List (List Nat)) (bs : List Bool) (hl : List Nat) (n L : Nat), vs = [.str z, .ref tb, .ref e, .ref ho] ∧ LolAt H tb ras rows ∧ TabOk n L rows ∧ H e = some (.lst (bs.map V.bl)) ∧ bs.length = n ∧ H ho = some (.lst (vi hl)) ∧ hl.length = n ∧
  ∀ H' p, Same H H' → MachAt H' p ⟨z, mRows rows hl, mEnds bs hl⟩ → Q (.ref p) H'
end
end LH

namespace LH
open PySem PySem.Spec PyProof.Rows L2 NdefX LamX
/-! ### walked: the states in the order of their first words -/
def AtT (tbl : List (List Nat)) (r c v : Nat) : Prop := ∃ row, tbl[r]? = some row ∧ row[c]? = some v
structure WI (n0 L : Nat) (R : Nat → List Nat) (s0 : Nat) (ks : List Nat) (tbl : List (List Nat)) : Prop where
  one : ks[0]? = some s0
  nd : ks.Nodup
  lt : ∀ s ∈ ks, s < n0
  le : tbl.length ≤ ks.length
  row : ∀ (j s : Nat) (r : List Nat), ks[j]? = some s → tbl[j]? = some r → r.length ≤ L ∧ ∀ c v : Nat, r[c]? = some v → ∃ t : Nat, (R s)[c]? = some t ∧ ks[v]? = some t
  bfs : ∀ k, 1 ≤ k → k < ks.length → ∃ r c, r < k ∧ AtT tbl r c k ∧ ∀ r' c' v, (r' < r ∨ (r' = r ∧ c' < c)) → AtT tbl r' c' v → v < k
theorem at_snoc {tbl : List (List Nat)} {cur : List Nat} {r c v : Nat} : AtT (tbl ++ [cur]) r c v ↔ AtT tbl r c v ∨ (r = tbl.length ∧ cur[c]? = some v) := by
  unfold AtT
  by_cases h : r < tbl.length
  · rw [List.getElem?_append_left h]
    exact ⟨fun z => .inl z, fun z => z.elim id fun y => absurd h (by omega)⟩
  · by_cases h2 : r = tbl.length
    · subst h2
      rw [List.getElem?_append_right (Nat.le_refl _), Nat.sub_self]
      constructor
      · rintro ⟨row, e, q⟩
        cases e
        exact .inr ⟨rfl, q⟩
      · rintro (⟨row, e, q⟩ | ⟨_, q⟩)
        · rw [List.getElem?_eq_none (Nat.le_refl _)] at e
          cases e
        · exact ⟨cur, rfl, q⟩
    · rw [List.getElem?_eq_none (by rw [List.length_append]; show tbl.length + 1 ≤ r; omega), List.getElem?_eq_none (by omega)]
      constructor
      · rintro ⟨row, e, _⟩
        cases e
      · rintro (⟨row, e, _⟩ | ⟨e, _⟩)
        · cases e
        · exact absurd e h2
theorem WI.start {n0 L : Nat} {R : Nat → List Nat} {s0 : Nat} (h : s0 < n0) : WI n0 L R s0 [s0] [] := ⟨rfl, by simp, fun s hs => by rw [List.mem_singleton.mp hs]; exact h, by simp, fun j s r _ e => by simp at e, fun k h1 h2 => by
  have : k < 1 := h2
  omega⟩
theorem WI.open_ {n0 L : Nat} {R : Nat → List Nat} {s0 : Nat} {ks : List Nat} {tbl : List (List Nat)} (h : WI n0 L R s0 ks tbl) (l : tbl.length < ks.length) : WI n0 L R s0 ks (tbl ++ [[]]) := by
  have key : ∀ r c v, AtT (tbl ++ [[]]) r c v ↔ AtT tbl r c v := fun r c v => by
    rw [at_snoc]
    exact ⟨fun z => z.elim id fun y => by have := y.2; simp at this, .inl⟩
  refine ⟨h.one, h.nd, h.lt, by rw [List.length_append]; exact l, fun j s r hs hr => ?_, fun k h1 h2 => ?_⟩
  · by_cases hj : j < tbl.length
    · rw [List.getElem?_append_left hj] at hr
      exact h.row j s r hs hr
    · rw [List.getElem?_append_right (by omega)] at hr
      have : j - tbl.length = 0 := by
        cases z : j - tbl.length with
        | zero => rfl
        | succ m =>
          rw [z] at hr
          simp at hr
      rw [this] at hr
      cases hr
      exact ⟨Nat.zero_le _, fun c v e => by simp at e⟩
  · obtain ⟨r, c, a, b, d⟩ := h.bfs k h1 h2
    exact ⟨r, c, a, (key r c k).mpr b, fun r' c' v lt e => d r' c' v lt ((key r' c' v).mp e)⟩
/-- one more number in the last row; ks' is ks, or ks and the state that is new -/
theorem WI.put {n0 L : Nat} {R : Nat → List Nat} {s0 : Nat} {ks ks' : List Nat} {tbl : List (List Nat)} {cur : List Nat} {s t v : Nat} (h : WI n0 L R s0 ks (tbl ++ [cur])) (hs : ks[tbl.length]? = some s) (ht : (R s)[cur.length]? = some t) (htn : t < n0) (hL : (R s).length ≤ L) (hv : ks'[v]? = some t)
    (hk : ks' = ks ∨ (ks' = ks ++ [t] ∧ t ∉ ks)) : WI n0 L R s0 ks' (tbl ++ [cur ++ [v]]) := by
  have ext : ∀ j x, ks[j]? = some x → ks'[j]? = some x := fun j x e => by
    rcases hk with rfl | ⟨rfl, _⟩
    · exact e
    · rw [List.getElem?_append_left (List.getElem?_eq_some_iff.mp e).1]
      exact e
  have back_ : ∀ j x, j ≤ tbl.length → ks'[j]? = some x → ks[j]? = some x := fun j x hj e => by
    have hl := (List.getElem?_eq_some_iff.mp hs).1
    rcases hk with rfl | ⟨rfl, _⟩
    · exact e
    · rw [List.getElem?_append_left (by omega)] at e
      exact e
  have key : ∀ r c x, AtT (tbl ++ [cur ++ [v]]) r c x ↔ AtT (tbl ++ [cur]) r c x ∨ (r = tbl.length ∧ c = cur.length ∧ x = v) := fun r c x => by
    rw [at_snoc, at_snoc]
    constructor
    · rintro (z | ⟨e, q⟩)
      · exact .inl (.inl z)
      · by_cases hc : c < cur.length
        · rw [List.getElem?_append_left hc] at q
          exact .inl (.inr ⟨e, q⟩)
        · rw [List.getElem?_append_right (by omega)] at q
          cases z : c - cur.length with
          | zero =>
            rw [z] at q
            cases q
            exact .inr ⟨e, by omega, rfl⟩
          | succ m =>
            rw [z] at q
            simp at q
    · rintro ((z | ⟨e, q⟩) | ⟨e1, e2, e3⟩)
      · exact .inl z
      · exact .inr ⟨e, by rw [List.getElem?_append_left (List.getElem?_eq_some_iff.mp q).1]; exact q⟩
      · subst e1 e2 e3
        refine .inr ⟨rfl, ?_⟩
        rw [List.getElem?_append_right (Nat.le_refl _), Nat.sub_self]
        rfl
  have bound : ∀ r c x, AtT (tbl ++ [cur]) r c x → x < ks.length := fun r c x ⟨row, e, q⟩ => by
    have hr := (List.getElem?_eq_some_iff.mp e).1
    have hle := h.le
    have : r < ks.length := by omega
    obtain ⟨_, z⟩ := h.row r _ row (List.getElem?_eq_getElem this) e
    obtain ⟨t', _, y⟩ := z c x q
    exact (List.getElem?_eq_some_iff.mp y).1
  have lk : ks.length ≤ ks'.length := by
    rcases hk with rfl | ⟨rfl, _⟩
    · exact Nat.le_refl _
    · rw [List.length_append]
      omega
  refine ⟨ext 0 _ h.one, ?_, ?_, ?_, fun j s1 r hs1 hr => ?_, fun k h1 h2 => ?_⟩
  · rcases hk with rfl | ⟨rfl, nin⟩
    · exact h.nd
    · refine List.nodup_append.mpr ⟨h.nd, by simp, fun x hx y hy e => ?_⟩
      rw [List.mem_singleton.mp hy] at e
      exact nin (e ▸ hx)
  · rcases hk with rfl | ⟨rfl, _⟩
    · exact h.lt
    · exact mem_snoc h.lt htn
  · have := h.le
    rw [List.length_append] at this ⊢
    exact Nat.le_trans this lk
  · by_cases hj : j < tbl.length
    · rw [List.getElem?_append_left hj] at hr
      obtain ⟨a, b⟩ := h.row j s1 r (back_ j s1 (by omega) hs1) (by rw [List.getElem?_append_left hj]; exact hr)
      refine ⟨a, fun c x e => ?_⟩
      obtain ⟨t', y1, y2⟩ := b c x e
      exact ⟨t', y1, ext _ _ y2⟩
    · rw [List.getElem?_append_right (by omega)] at hr
      have ej : j - tbl.length = 0 := by
        cases z : j - tbl.length with
        | zero => rfl
        | succ m =>
          rw [z] at hr
          simp at hr
      rw [ej] at hr
      cases hr
      have ej2 : j = tbl.length := by omega
      subst ej2
      have hs2 := back_ _ s1 (Nat.le_refl _) hs1
      rw [hs] at hs2
      cases hs2
      obtain ⟨a, b⟩ := h.row tbl.length s cur hs (by rw [List.getElem?_append_right (Nat.le_refl _), Nat.sub_self]; rfl)
      have hcl := (List.getElem?_eq_some_iff.mp ht).1
      refine ⟨by rw [List.length_append]; show cur.length + 1 ≤ L; omega, fun c x e => ?_⟩
      by_cases hc : c < cur.length
      · rw [List.getElem?_append_left hc] at e
        obtain ⟨t', y1, y2⟩ := b c x e
        exact ⟨t', y1, ext _ _ y2⟩
      · rw [List.getElem?_append_right (by omega)] at e
        have ec : c - cur.length = 0 := by
          cases z : c - cur.length with
          | zero => rfl
          | succ m =>
            rw [z] at e
            simp at e
        rw [ec] at e
        cases e
        have : c = cur.length := by omega
        subst this
        exact ⟨t, ht, hv⟩
  · by_cases hkl : k < ks.length
    · obtain ⟨r, c, a, b, d⟩ := h.bfs k h1 hkl
      refine ⟨r, c, a, (key r c k).mpr (.inl b), fun r' c' x lt e => ?_⟩
      rcases (key r' c' x).mp e with z | ⟨e1, e2, _⟩
      · exact d r' c' x lt z
      · -- the new place is behind all others
        obtain ⟨row, y1, y2⟩ := b
        have hr := (List.getElem?_eq_some_iff.mp y1).1
        rw [List.length_append] at hr
        have hr : r < tbl.length + 1 := hr
        rcases lt with lt | ⟨l1, l2⟩
        · omega
        · have : r = tbl.length := by omega
          subst this
          rw [List.getElem?_append_right (Nat.le_refl _), Nat.sub_self] at y1
          cases y1
          have := (List.getElem?_eq_some_iff.mp y2).1
          omega
    · rcases hk with rfl | ⟨rfl, nin⟩
      · omega
      · have ek : k = ks.length := by
          rw [List.length_append] at h2
          have : k < ks.length + 1 := h2
          omega
        have ev : v = ks.length := by
          have hvl := (List.getElem?_eq_some_iff.mp hv).1
          rw [List.length_append] at hvl
          have hvl : v < ks.length + 1 := hvl
          by_cases z : v < ks.length
          · rw [List.getElem?_append_left z] at hv
            exact absurd (List.mem_of_getElem? hv) nin
          · omega
        subst ek
        refine ⟨tbl.length, cur.length, (List.getElem?_eq_some_iff.mp hs).1, (key _ _ _).mpr (.inr ⟨rfl, rfl, ev.symm⟩), fun r' c' x lt e => ?_⟩
        rcases (key r' c' x).mp e with z | ⟨e1, e2, _⟩
        · exact bound r' c' x z
        · omega
abbrev mk (ks : List Nat) : List (Key × V) := ks.zipIdx.map fun (p : Nat × Nat) => ((Sum.inl (p.1 : Int) : Key), V.int (p.2 : Int))
theorem mk_snoc (ks : List Nat) (t : Nat) : mk (ks ++ [t]) = mk ks ++ [((Sum.inl (t : Int) : Key), V.int (ks.length : Int))] := by
  show List.map _ (ks ++ [t]).zipIdx = _
  rw [List.zipIdx_append, List.map_append]
  simp
theorem valV_mkk (x : Nat) : ∀ (ks : List Nat) (k : Nat), valV ((ks.zipIdx k).map fun (p : Nat × Nat) => ((Sum.inl (p.1 : Int) : Key), V.int (p.2 : Int))) (Sum.inl (x : Int) : Key) = if x ∈ ks then some (.int ((k + ks.idxOf x : Nat) : Int)) else none
  | [], _ => rfl
  | h :: r, k => by
    rw [List.zipIdx_cons, List.map_cons, List.idxOf_cons]
    by_cases q : h = x
    · subst q
      rw [valV_pos rfl, if_pos (List.mem_cons_self ..)]
      simp
    · have ne : ¬ (((h, k) : Nat × Nat) |> fun p => ((Sum.inl (p.1 : Int) : Key), V.int (p.2 : Int))).1 = (Sum.inl (x : Int) : Key) := fun z => q (by
        have z1 : ((h : Nat) : Int) = (x : Int) := Sum.inl.inj z
        exact Int.ofNat.inj z1)
      rw [valV_neg ne, valV_mkk x r (k + 1), show (h == x) = false from beq_eq_false_iff_ne.mpr q]
      have : (x ∈ h :: r) ↔ x ∈ r := ⟨fun z => (List.mem_cons.mp z).elim (fun y => absurd y.symm q) id, List.mem_cons_of_mem _⟩
      by_cases e : x ∈ r
      · rw [if_pos e, if_pos (this.mpr e)]
        show some (V.int ((k + 1 + r.idxOf x : Nat) : Int)) = some (V.int ((k + (r.idxOf x + 1) : Nat) : Int))
        congr 2
        omega
      · rw [if_neg e, if_neg (fun z => e (this.mp z))]
theorem valV_mk (x : Nat) (ks : List Nat) : valV (mk ks) (Sum.inl (x : Int) : Key) = if x ∈ ks then some (.int ((ks.idxOf x : Nat) : Int)) else none := by
  have := valV_mkk x ks 0
  rw [Nat.zero_add] at this
  exact this
theorem mk_len (ks : List Nat) : (mk ks).length = ks.length := by
  show (List.map _ _).length = _
  rw [List.length_map, List.length_zipIdx]
theorem WI.many {n0 L : Nat} {R : Nat → List Nat} {s0 : Nat} {ks : List Nat} {tbl : List (List Nat)} (h : WI n0 L R s0 ks tbl) : ks.length ≤ n0 := by
  have := len_le_of_sub (ys := List.range n0) h.nd fun x hx => List.mem_range.mpr (h.lt x hx)
  rw [List.length_range] at this
  exact this
end LH

namespace LH
open PySem PySem.Spec PyProof.Rows L2 NdefX LamX
section
variable {P : Program} {w : World} {K : PySem.W.Frag} {mg : Str → Option Value} {base : Heap}
def sp_walked (P : Program) (w : World) (K : PySem.W.Frag) (mg : Str → Option Value) (base : Heap) : Sp := fun vs H Q _ => ∃ (f : Addr) (F : NF) (spf : Sp) (s0 n0 L : Nat) (R : Nat → List Nat), vs = [.int (s0 : Int), .ref f] ∧ H f = some (FnO f F) ∧ Callable P w K mg base 4 f spf ∧ s0 < n0 ∧ n0 ≤ 1000000 ∧ L ≤ 5 ∧ (∀ s, s < n0 → (R s).length = L ∧ ∀ t ∈ R s, t < n0) ∧
  (∀ (s : Nat) (H' : Hp) (Q' : VK), s < n0 → Same H H' → (∀ H'' p, Same H' H'' → H'' p = some (.tup (vi (R s))) → Q' (.ref p) H'') → spf [.int (s : Int)] H' Q' E0) ∧
  ∀ H' p ka tb ras ks tbl, Same H H' → H' p = some (.tup [.ref ka, .ref tb]) → H' ka = some (.lst (vi ks)) → LolAt H' tb ras tbl → WI n0 L R s0 ks tbl → tbl.length = ks.length → (∀ r ∈ tbl, r.length = L) → Q (.ref p) H'
theorem lol_snoc {H : Hp} {tb ra : Addr} {ras : List Addr} {tbl : List (List Nat)} {row : List Nat} (h : LolAt H tb ras tbl) (hr : H ra = some (.lst (vi row))) (nt : ∀ a ∈ ras, a ≠ tb) (nr : ra ≠ tb) : LolAt (upd H tb (.lst (vr (ras ++ [ra])))) tb (ras ++ [ra]) (tbl ++ [row]) := by
  refine ⟨upd_same, by rw [List.length_append, List.length_append, h.2.1]; rfl, fun i b w x y => ?_⟩
  by_cases hi : i < ras.length
  · rw [List.getElem?_append_left hi] at x
    rw [List.getElem?_append_left (by rw [← h.2.1]; exact hi)] at y
    rw [upd_ne (nt b (List.mem_of_getElem? x))]
    exact h.2.2 i b w x y
  · rw [List.getElem?_append_right (by omega)] at x
    rw [List.getElem?_append_right (by rw [← h.2.1]; omega), ← h.2.1] at y
    have e : i - ras.length = 0 := by
      cases q : i - ras.length with
      | zero => rfl
      | succ k =>
        rw [q] at x
        simp at x
    rw [e] at x y
    cases x
    cases y
    rw [upd_ne nr]
    exact hr
end
end LH

namespace LH
open PySem PySem.Spec PyProof.Rows L2 NdefX LamX
structure BuiltOk (n0 L : Nat) (R : Nat → List Nat) (s0 : Nat) (fin : Nat → Bool) (M : Mach) (ks : List Nat) (tbl : List (List Nat)) (hl : List Nat) : Prop where
  wi : WI n0 L R s0 ks tbl
  len : tbl.length = ks.length
  full : ∀ r ∈ tbl, r.length = L
  hlen : hl.length = ks.length
  like : ∀ s t, s < ks.length → t < ks.length → (hl[s]? = hl[t]? ↔ Eqv tbl (ks.map fin) L s t)
  rows : M.rows = mRows tbl hl
  ends : M.ends = mEnds (ks.map fin) hl
theorem BuiltOk.tab {n0 L : Nat} {R : Nat → List Nat} {s0 : Nat} {ks : List Nat} {tbl : List (List Nat)} (wi : WI n0 L R s0 ks tbl) (len : tbl.length = ks.length) (full : ∀ r ∈ tbl, r.length = L) (h1 : 1 ≤ L) (h5 : L ≤ 5) (hb : n0 ≤ 1000000) : TabOk ks.length L tbl := by
  have hm := wi.many
  refine ⟨len, (List.getElem?_eq_some_iff.mp wi.one).1, by omega, h1, h5, fun r hr => ⟨full r hr, fun t ht => ?_⟩⟩
  obtain ⟨j, hj⟩ := List.mem_iff_getElem?.mp hr
  obtain ⟨c, hc⟩ := List.mem_iff_getElem?.mp ht
  have hjl : j < ks.length := by
    rw [← len]
    exact (List.getElem?_eq_some_iff.mp hj).1
  obtain ⟨_, z⟩ := wi.row j _ r (List.getElem?_eq_getElem hjl) hj
  obtain ⟨t', _, y⟩ := z c t hc
  exact (List.getElem?_eq_some_iff.mp y).1
section
variable {P : Program} {w : World} {K : PySem.W.Frag} {mg : Str → Option Value} {base : Heap}
def sp_built (P : Program) (w : World) (K : PySem.W.Frag) (mg : Str → Option Value) (base : Heap) : Sp := fun vs H Q _ => ∃ (z : Str) (f g : Addr) (F G : NF) (spf spg : Sp) (s0 n0 L : Nat) (R : Nat → List Nat) (fin : Nat → Bool), vs = [.str z, .int (s0 : Int), .ref f, .ref g] ∧ H f = some (FnO f F) ∧ Callable P w K mg base 4 f spf ∧ H g = some (FnO g G) ∧ Callable P w K mg base 4 g spg ∧
  s0 < n0 ∧ n0 ≤ 1000000 ∧ 1 ≤ L ∧ L ≤ 5 ∧ (∀ s, s < n0 → (R s).length = L ∧ ∀ t ∈ R s, t < n0) ∧
  (∀ (s : Nat) (H' : Hp) (Q' : VK), s < n0 → Same H H' → (∀ H'' p, Same H' H'' → H'' p = some (.tup (vi (R s))) → Q' (.ref p) H'') → spf [.int (s : Int)] H' Q' E0) ∧
  (∀ (s : Nat) (H' : Hp) (Q' : VK), s < n0 → Same H H' → (∀ H'', Same H' H'' → Q' (.bl (fin s)) H'') → spg [.int (s : Int)] H' Q' E0) ∧
  ∀ H' p (M : Mach) ks tbl hl, Same H H' → MachAt H' p M → M.z = z → BuiltOk n0 L R s0 fin M ks tbl hl → Q (.ref p) H'
end
end LH

namespace LH
open PySem PySem.Spec PyProof.Rows L2
/-! ### least machines: one for each set of words -/
structure Canon (L : Nat) (rows : List (List Nat)) (ends : List Nat) : Prop where
  one : 1 ≤ rows.length
  row : ∀ r ∈ rows, r.length = L ∧ ∀ t ∈ r, t < rows.length
  endl : ∀ e ∈ ends, e < rows.length
  rise : ends.Pairwise (· < ·)
  bfs : ∀ k, 1 ≤ k → k < rows.length → ∃ r c, r < k ∧ AtT rows r c k ∧ ∀ r' c' v, (r' < r ∨ (r' = r ∧ c' < c)) → AtT rows r' c' v → v < k
  min : ∀ s t, s < rows.length → t < rows.length → (∀ w : List Nat, (∀ c ∈ w, c < L) → (runs rows s w ∈ ends ↔ runs rows t w ∈ ends)) → s = t
theorem at_dl {L : Nat} {rows : List (List Nat)} {r c v : Nat} (h : AtT rows r c v) : dl rows r c = v := by
  obtain ⟨row, e, q⟩ := h
  have e1 : rows.getD r [] = row := by
    rw [List.getD_eq_getElem?_getD, e]
    rfl
  unfold dl
  rw [e1, List.getD_eq_getElem?_getD, q]
  rfl
theorem Canon.at_ {L : Nat} {rows : List (List Nat)} {ends : List Nat} (h : Canon L rows ends) {s c : Nat} (hs : s < rows.length) (hc : c < L) : AtT rows s c (dl rows s c) ∧ dl rows s c < rows.length := by
  have e : rows[s]? = some rows[s] := List.getElem?_eq_getElem hs
  obtain ⟨l, t⟩ := h.row _ (List.getElem_mem hs)
  have hcl : c < rows[s].length := by omega
  have q : rows[s][c]? = some rows[s][c] := List.getElem?_eq_getElem hcl
  have a : AtT rows s c rows[s][c] := ⟨_, e, q⟩
  rw [at_dl (L := L) a]
  exact ⟨a, t _ (List.getElem_mem hcl)⟩
theorem Canon.col {L : Nat} {rows : List (List Nat)} {ends : List Nat} (h : Canon L rows ends) {r c v : Nat} (a : AtT rows r c v) : r < rows.length ∧ c < L := by
  obtain ⟨row, e, q⟩ := a
  have := (h.row row (List.mem_of_getElem? e)).1
  exact ⟨(List.getElem?_eq_some_iff.mp e).1, by rw [← this]; exact (List.getElem?_eq_some_iff.mp q).1⟩
/-- states of two machines with the same words ahead -/
def Like (L : Nat) (rows : List (List Nat)) (ends : List Nat) (rows' : List (List Nat)) (ends' : List Nat) (s s' : Nat) : Prop := ∀ w : List Nat, (∀ c ∈ w, c < L) → (runs rows s w ∈ ends ↔ runs rows' s' w ∈ ends')
theorem Like.step {L : Nat} {rows rows' : List (List Nat)} {ends ends' : List Nat} {s s' c : Nat} (h : Like L rows ends rows' ends' s s') (hc : c < L) : Like L rows ends rows' ends' (dl rows s c) (dl rows' s' c) := fun w hw => h (c :: w) fun d hd => by
  rcases List.mem_cons.mp hd with rfl | hd
  · exact hc
  · exact hw d hd
theorem canon_half {L : Nat} {rows rows' : List (List Nat)} {ends ends' : List Nat} (h : Canon L rows ends) (h' : Canon L rows' ends') (e : Like L rows ends rows' ends' 0 0) : ∀ k, k < rows.length → k < rows'.length ∧ Like L rows ends rows' ends' k k := by
  intro k
  induction k using Nat.strongRecOn with
  | ind k ih =>
    intro hk
    by_cases h0 : k = 0
    · subst h0
      exact ⟨h'.one, e⟩
    · obtain ⟨r, c, hr, ha, hb⟩ := h.bfs k (by omega) hk
      obtain ⟨hrl, hcL⟩ := h.col ha
      obtain ⟨hr', lr⟩ := ih r hr hrl
      have lk := lr.step hcL
      rw [at_dl (L := L) ha] at lk
      obtain ⟨a', b'⟩ := h'.at_ hr' hcL
      have big : ¬ dl rows' r c < k := fun z => by
        obtain ⟨_, lj⟩ := ih _ z (by omega)
        have := h.min k (dl rows' r c) hk (by omega) fun w hw => (lk w hw).trans (lj w hw).symm
        omega
      have eq : dl rows' r c = k := by
        by_cases z : dl rows' r c = k
        · exact z
        · exfalso
          have hk' : k < rows'.length := by omega
          obtain ⟨r2, c2, hr2, ha2, hb2⟩ := h'.bfs k (by omega) hk'
          obtain ⟨hr2l, hc2L⟩ := h'.col ha2
          by_cases o1 : r < r2 ∨ (r = r2 ∧ c < c2)
          · have := hb2 r c _ o1 a'
            omega
          · by_cases o2 : r = r2 ∧ c = c2
            · obtain ⟨rfl, rfl⟩ := o2
              exact z (at_dl (L := L) ha2)
            · have o3 : r2 < r ∨ (r2 = r ∧ c2 < c) := by omega
              have hr2n : r2 < rows.length := by omega
              obtain ⟨a3, b3⟩ := h.at_ hr2n hc2L
              have lt := hb r2 c2 _ o3 a3
              obtain ⟨_, l2⟩ := ih r2 hr2 hr2n
              have l3 := l2.step hc2L
              rw [at_dl (L := L) ha2] at l3
              obtain ⟨hv', lv⟩ := ih _ lt b3
              have := h'.min (dl rows r2 c2) k hv' hk' fun w hw => (lv w hw).symm.trans (l3 w hw)
              omega
      rw [eq] at lk b'
      exact ⟨b', lk⟩
theorem Like.symm {L : Nat} {rows rows' : List (List Nat)} {ends ends' : List Nat} {s s' : Nat} (h : Like L rows ends rows' ends' s s') : Like L rows' ends' rows ends s' s := fun w hw => (h w hw).symm
theorem rise_ext {xs ys : List Nat} (hx : xs.Pairwise (· < ·)) (hy : ys.Pairwise (· < ·)) (e : ∀ a, a ∈ xs ↔ a ∈ ys) : xs = ys := by
  have p : xs.Perm ys := by
    refine (List.perm_ext_iff_of_nodup (hx.imp fun h => Nat.ne_of_lt h) (hy.imp fun h => Nat.ne_of_lt h)).mpr e
  exact p.eq_of_pairwise (fun a b _ _ h1 h2 => absurd h1 (by omega)) hx hy
theorem canon_uniq {L : Nat} {rows rows' : List (List Nat)} {ends ends' : List Nat} (h : Canon L rows ends) (h' : Canon L rows' ends') (e : ∀ w : List Nat, (∀ c ∈ w, c < L) → (runs rows 0 w ∈ ends ↔ runs rows' 0 w ∈ ends')) : rows = rows' ∧ ends = ends' := by
  have a := canon_half h h' e
  have b := canon_half h' h (Like.symm e)
  have len : rows.length = rows'.length := by
    have a1 := (a (rows.length - 1) (by have := h.one; omega)).1
    have b1 := (b (rows'.length - 1) (by have := h'.one; omega)).1
    omega
  refine ⟨List.ext_getElem? fun i => ?_, rise_ext h.rise h'.rise fun x => ?_⟩
  · by_cases hi : i < rows.length
    · have hi' : i < rows'.length := by omega
      rw [List.getElem?_eq_getElem hi, List.getElem?_eq_getElem hi']
      congr 1
      obtain ⟨l1, _⟩ := h.row _ (List.getElem_mem hi)
      obtain ⟨l2, _⟩ := h'.row _ (List.getElem_mem hi')
      refine List.ext_getElem? fun c => ?_
      by_cases hc : c < L
      · obtain ⟨x1, y1⟩ := h.at_ hi hc
        obtain ⟨x2, y2⟩ := h'.at_ hi' hc
        have lv := (a i hi).2.step hc
        obtain ⟨z1, z2⟩ := a _ y1
        have := h'.min (dl rows i c) (dl rows' i c) z1 y2 fun w hw => (z2 w hw).symm.trans (lv w hw)
        obtain ⟨r1, e1, q1⟩ := x1
        obtain ⟨r2, e2, q2⟩ := x2
        rw [List.getElem?_eq_getElem hi] at e1
        rw [List.getElem?_eq_getElem hi'] at e2
        cases e1
        cases e2
        rw [q1, q2, this]
      · rw [List.getElem?_eq_none (by omega), List.getElem?_eq_none (by omega)]
    · rw [List.getElem?_eq_none (by omega), List.getElem?_eq_none (by omega)]
  · constructor
    · intro hx
      exact ((a x (h.endl x hx)).2 [] (fun _ h => nomatch h)).mp hx
    · intro hx
      exact ((b x (h'.endl x hx)).2 [] (fun _ h => nomatch h)).mp hx
end LH

namespace LH
open PySem PySem.Spec PyProof.Rows L2
/-! ### what built tells is least, with just the words that are read from start on -/
section
variable {n0 L s0 : Nat} {R : Nat → List Nat} {fin : Nat → Bool} {M : Mach} {ks : List Nat} {tbl : List (List Nat)} {hl : List Nat}
theorem TabOk.atT {n : Nat} {rows : List (List Nat)} (k : TabOk n L rows) {s c : Nat} (hs : s < n) (hc : c < L) : AtT rows s c (dl rows s c) := by
  obtain ⟨r, e, g, l, _⟩ := k.at_ hs
  have hcl : c < r.length := by omega
  refine ⟨r, e, ?_⟩
  unfold dl
  rw [g, List.getD_eq_getElem?_getD, List.getElem?_eq_getElem hcl]
  rfl
theorem runs_lt {n : Nat} {rows : List (List Nat)} (k : TabOk n L rows) : ∀ (w : List Nat) (s : Nat), s < n → (∀ c ∈ w, c < L) → runs rows s w < n
  | [], _, h, _ => h
  | c :: w, s, h, hw => runs_lt k w _ (k.dl_lt h (hw c (List.mem_cons_self ..))) fun d hd => hw d (List.mem_cons_of_mem _ hd)
theorem mr_len : (mRows tbl hl).length = (headsOf hl hl.length).length := by
  unfold mRows
  rw [List.length_map]
theorem num_lt {s : Nat} (hs : s < hl.length) : numOf hl s < (mRows tbl hl).length := by
  obtain ⟨h, e, _⟩ := num_spec hs
  rw [mr_len]
  exact (List.getElem?_eq_some_iff.mp e).1
theorem num_zero (h0 : 0 < hl.length) : numOf hl 0 = 0 := by
  obtain ⟨h, e, le, _⟩ := num_spec h0
  have : h = 0 := by omega
  subst this
  have hm := List.mem_of_getElem? e
  -- 0 is the least head
  have r := heads_rise hl hl.length
  by_cases z : numOf hl 0 = 0
  · exact z
  · exfalso
    have hl' := (List.getElem?_eq_some_iff.mp e).1
    have h0' : 0 < (headsOf hl hl.length).length := by omega
    have := List.pairwise_iff_getElem.mp r 0 (numOf hl 0) h0' hl' (by omega)
    have e2 := (List.getElem?_eq_some_iff.mp e).2
    omega
theorem dl_num (k : TabOk ks.length L tbl) (hlen : hl.length = ks.length) (like : ∀ s t, s < ks.length → t < ks.length → (hl[s]? = hl[t]? ↔ Eqv tbl (ks.map fin) L s t)) {s c : Nat} (hs : s < ks.length) (hc : c < L) : dl (mRows tbl hl) (numOf hl s) c = numOf hl (dl tbl s c) ∧ AtT (mRows tbl hl) (numOf hl s) c (numOf hl (dl tbl s c)) := by
  obtain ⟨h, e, le, q⟩ := num_spec (hl := hl) (s := s) (by omega)
  have hh : h < ks.length := by omega
  have ev := (like h s hh hs).mp q
  have n1 : numOf hl (dl tbl h c) = numOf hl (dl tbl s c) := by
    have a := k.dl_lt hh hc
    have b := k.dl_lt hs hc
    exact (num_eq (by omega) (by omega)).mpr ((like _ _ a b).mpr (ev.step hc))
  obtain ⟨r, er, q2⟩ := k.atT hh hc
  have at_ : AtT (mRows tbl hl) (numOf hl s) c (numOf hl (dl tbl s c)) := by
    refine ⟨r.map (numOf hl), ?_, by rw [List.getElem?_map, q2, ← n1]; rfl⟩
    unfold mRows
    rw [List.getElem?_map, e]
    show some ((tbl.getD h []).map (numOf hl)) = _
    rw [List.getD_eq_getElem?_getD, er]
    rfl
  exact ⟨at_dl (L := L) at_, at_⟩
theorem runs_num (k : TabOk ks.length L tbl) (hlen : hl.length = ks.length) (like : ∀ s t, s < ks.length → t < ks.length → (hl[s]? = hl[t]? ↔ Eqv tbl (ks.map fin) L s t)) : ∀ (w : List Nat) (s : Nat), s < ks.length → (∀ c ∈ w, c < L) → runs (mRows tbl hl) (numOf hl s) w = numOf hl (runs tbl s w)
  | [], _, _, _ => rfl
  | c :: w, s, hs, hw => by
    have hc := hw c (List.mem_cons_self ..)
    show runs (mRows tbl hl) (dl (mRows tbl hl) (numOf hl s) c) w = numOf hl (runs tbl (dl tbl s c) w)
    rw [(dl_num k hlen like hs hc).1]
    exact runs_num k hlen like w _ (k.dl_lt hs hc) fun d hd => hw d (List.mem_cons_of_mem _ hd)
theorem ends_num (hlen : hl.length = ks.length) (like : ∀ s t, s < ks.length → t < ks.length → (hl[s]? = hl[t]? ↔ Eqv tbl (ks.map fin) L s t)) {s : Nat} (hs : s < ks.length) : numOf hl s ∈ mEnds (ks.map fin) hl ↔ (ks.map fin)[s]? = some true := by
  obtain ⟨h, e, le, q⟩ := num_spec (hl := hl) (s := s) (by omega)
  have ev := (like h s (by omega) hs).mp q
  have e0 : (ks.map fin)[h]? = (ks.map fin)[s]? := ev [] (fun _ h => nomatch h)
  unfold mEnds
  rw [List.mem_filter, List.mem_range, decide_eq_true_iff, List.getD_eq_getElem?_getD, e]
  show _ ∧ (ks.map fin)[h]? = some true ↔ _
  rw [e0]
  exact ⟨fun z => z.2, fun z => ⟨(List.getElem?_eq_some_iff.mp e).1, z⟩⟩
theorem head_back {k : Nat} (hk : k < (mRows tbl hl).length) : ∃ s, (headsOf hl hl.length)[k]? = some s ∧ s < hl.length ∧ numOf hl s = k := by
  rw [mr_len] at hk
  have e : (headsOf hl hl.length)[k]? = some (headsOf hl hl.length)[k] := List.getElem?_eq_getElem hk
  exact ⟨_, e, (heads_mem.mp (List.mem_of_getElem? e)).1, num_of_head e⟩
/-- heads rise with their numbers -/
theorem num_mono {s t : Nat} (hs : isHead hl s = true) (ht : isHead hl t = true) (hsl : s < hl.length) (htl : t < hl.length) : s < t ↔ numOf hl s < numOf hl t := by
  have a : s ∈ headsOf hl hl.length := heads_mem.mpr ⟨hsl, isHead_iff.mp hs⟩
  have b : t ∈ headsOf hl hl.length := heads_mem.mpr ⟨htl, isHead_iff.mp ht⟩
  obtain ⟨i, hi⟩ := List.mem_iff_getElem?.mp a
  obtain ⟨j, hj⟩ := List.mem_iff_getElem?.mp b
  have ei := num_of_head hi
  have ej := num_of_head hj
  rw [ei, ej]
  have r := heads_rise hl hl.length
  obtain ⟨li, gi⟩ := List.getElem?_eq_some_iff.mp hi
  obtain ⟨lj, gj⟩ := List.getElem?_eq_some_iff.mp hj
  constructor
  · intro z
    rcases Nat.lt_trichotomy i j with y | y | y
    · exact y
    · subst y
      rw [gi] at gj
      omega
    · have := List.pairwise_iff_getElem.mp r j i lj li y
      omega
  · intro z
    have := List.pairwise_iff_getElem.mp r i j li lj z
    omega
theorem num_le_of {s t : Nat} (hs : s < hl.length) (ht : t < hl.length) (hh : isHead hl s = true) (h : numOf hl s ≤ numOf hl t) : s ≤ t := by
  obtain ⟨h', e, le, q⟩ := num_spec ht
  have hm := List.mem_of_getElem? e
  have hh' : isHead hl h' = true := isHead_iff.mpr (heads_mem.mp hm).2
  have nh : numOf hl h' = numOf hl t := num_of_head e
  have hl' := (heads_mem.mp hm).1
  by_cases z : s ≤ h'
  · omega
  · have := (num_mono hh' hh hl' hs).mp (by omega)
    omega
theorem BuiltOk.canon (b : BuiltOk n0 L R s0 fin M ks tbl hl) (k : TabOk ks.length L tbl) : Canon L M.rows M.ends := by
  have hlen := b.hlen
  have like := b.like
  rw [b.rows, b.ends]
  have h0 : 0 < hl.length := by
    rw [hlen]
    exact k.one
  have up : ∀ {k' : Nat}, k' < (mRows tbl hl).length → ∃ s, (headsOf hl hl.length)[k']? = some s ∧ s < ks.length ∧ numOf hl s = k' ∧ isHead hl s = true := fun {k'} hk => by
    obtain ⟨s, e, l, q⟩ := head_back hk
    exact ⟨s, e, by omega, q, isHead_iff.mpr (heads_mem.mp (List.mem_of_getElem? e)).2⟩
  refine ⟨by have := num_lt (tbl := tbl) h0; omega, fun r hr => ?_, fun e he => ?_, ?_, fun kk h1 h2 => ?_, fun s t hs ht hw => ?_⟩
  · obtain ⟨i, hi⟩ := List.mem_iff_getElem?.mp hr
    have hil := (List.getElem?_eq_some_iff.mp hi).1
    obtain ⟨s, e, ls, _, _⟩ := up hil
    obtain ⟨row, er, eg, lr, lt⟩ := k.at_ ls
    unfold mRows at hi
    rw [List.getElem?_map, e] at hi
    have hi : some ((tbl.getD s []).map (numOf hl)) = some r := hi
    rw [eg] at hi
    cases hi
    refine ⟨by rw [List.length_map]; exact lr, fun t ht => ?_⟩
    obtain ⟨u, hu, rfl⟩ := List.mem_map.mp ht
    have := lt u hu
    exact num_lt (by omega)
  · unfold mEnds at he
    rw [mr_len]
    exact List.mem_range.mp (List.mem_filter.mp he).1
  · unfold mEnds
    exact List.Pairwise.filter _ List.pairwise_lt_range
  · -- the first place with a number of kk or more is kk's
    obtain ⟨s, es, ls, ns, hs⟩ := up h2
    have hs1 : 1 ≤ s := by
      by_cases z : s = 0
      · subst z
        rw [num_zero h0] at ns
        omega
      · omega
    obtain ⟨r, c, hrs, ha, hb⟩ := b.wi.bfs s hs1 ls
    have hrl : r < ks.length := by omega
    have hcL : c < L := by
      obtain ⟨row, er, q⟩ := ha
      have := b.full row (List.mem_of_getElem? er)
      rw [← this]
      exact (List.getElem?_eq_some_iff.mp q).1
    obtain ⟨r0, er0, ler0, qr0⟩ := num_spec (hl := hl) (s := r) (by omega)
    have hr0m := List.mem_of_getElem? er0
    have hr0h : isHead hl r0 = true := isHead_iff.mpr (heads_mem.mp hr0m).2
    have nr0 : numOf hl r0 = numOf hl r := num_of_head er0
    have ad := (dl_num (fin := fin) k hlen like hrl hcL).2
    rw [at_dl (L := L) ha, ns] at ad
    refine ⟨numOf hl r, c, ?_, ad, fun r' c' v lt a' => ?_⟩
    · rw [← ns, ← nr0]
      exact (num_mono hr0h hs (by omega) (by omega)).mp (by omega)
    · -- an earlier place: its head's row stands earlier in the table
      have hr'l : r' < (mRows tbl hl).length := by
        obtain ⟨row, er, _⟩ := a'
        exact (List.getElem?_eq_some_iff.mp er).1
      obtain ⟨x, ex, lx, nx, hx⟩ := up hr'l
      have hc'L : c' < L := by
        obtain ⟨row, er, q⟩ := a'
        unfold mRows at er
        rw [List.getElem?_map, ex] at er
        have er : some ((tbl.getD x []).map (numOf hl)) = some row := er
        obtain ⟨rx, erx, egx, lrx, _⟩ := k.at_ lx
        rw [egx] at er
        cases er
        have := (List.getElem?_eq_some_iff.mp q).1
        rw [List.length_map] at this
        omega
      have dx := (dl_num (fin := fin) k hlen like lx hc'L).1
      rw [nx, at_dl (L := L) a'] at dx
      have ax := k.atT lx hc'L
      have xr : x < r ∨ (x = r ∧ c' < c) ∨ (x = r0 ∧ r0 < r ∧ c' < c) := by
        rcases lt with lt | ⟨l1, l2⟩
        · left
          have : x < r0 := (num_mono hx hr0h (by omega) (by omega)).mpr (by rw [nx, nr0]; exact lt)
          omega
        · have : x = r0 := head_uniq (List.mem_of_getElem? ex) hr0m (by
            have e1 : numOf hl x = numOf hl r0 := by rw [nx, l1, nr0]
            exact (num_eq (by omega) (by omega)).mp e1)
          subst this
          by_cases z : x = r
          · exact .inr (.inl ⟨z, l2⟩)
          · exact .inl (by omega)
      have small : dl tbl x c' < s := by
        rcases xr with y | y | y
        · exact hb x c' _ (.inl y) ax
        · exact hb x c' _ (.inr y) ax
        · exact hb x c' _ (.inl (by omega)) ax
      rw [dx, ← ns]
      have hdl := k.dl_lt lx hc'L
      by_cases z : numOf hl (dl tbl x c') < numOf hl s
      · exact z
      · have := num_le_of (hl := hl) (s := s) (t := dl tbl x c') (by omega) (by omega) hs (by omega)
        omega
  · obtain ⟨x, _, lx, nx, _⟩ := up hs
    obtain ⟨y, _, ly, ny, _⟩ := up ht
    rw [← nx, ← ny]
    refine (num_eq (by omega) (by omega)).mpr ((like x y lx ly).mpr fun w hw' => ?_)
    have := hw w hw'
    rw [← nx, ← ny, runs_num (fin := fin) k hlen like w x lx hw', runs_num (fin := fin) k hlen like w y ly hw', ends_num hlen like (runs_lt k w x lx hw'), ends_num hlen like (runs_lt k w y ly hw')] at this
    have l1 := runs_lt k w x lx hw'
    have l2 := runs_lt k w y ly hw'
    rw [List.getElem?_map, List.getElem?_map, List.getElem?_eq_getElem l1, List.getElem?_eq_getElem l2] at this ⊢
    simp only [Option.map_some, Option.some.injEq] at this ⊢
    exact Bool.eq_iff_iff.mpr this
/-- the words: read from s0 on -/
def runR (R : Nat → List Nat) (s : Nat) (w : List Nat) : Nat := w.foldl (fun s c => (R s).getD c 0) s
theorem ks_runs (b : BuiltOk n0 L R s0 fin M ks tbl hl) (k : TabOk ks.length L tbl) : ∀ (w : List Nat) (j s : Nat), ks[j]? = some s → (∀ c ∈ w, c < L) → ks[runs tbl j w]? = some (runR R s w)
  | [], _, _, h, _ => h
  | c :: w, j, s, h, hw => by
    have hc := hw c (List.mem_cons_self ..)
    have hj := (List.getElem?_eq_some_iff.mp h).1
    obtain ⟨row, er, q⟩ := k.atT hj hc
    obtain ⟨_, z⟩ := b.wi.row j s row h er
    obtain ⟨t, y1, y2⟩ := z c _ q
    have e1 : (R s).getD c 0 = t := by
      rw [List.getD_eq_getElem?_getD, y1]
      rfl
    show ks[runs tbl (dl tbl j c) w]? = some (runR R ((R s).getD c 0) w)
    rw [e1]
    exact ks_runs b k w _ t y2 fun d hd => hw d (List.mem_cons_of_mem _ hd)
theorem BuiltOk.words (b : BuiltOk n0 L R s0 fin M ks tbl hl) (k : TabOk ks.length L tbl) (w : List Nat) (hw : ∀ c ∈ w, c < L) : runs M.rows 0 w ∈ M.ends ↔ fin (runR R s0 w) = true := by
  have h0 : 0 < hl.length := by
    rw [b.hlen]
    exact k.one
  rw [b.rows, b.ends]
  have e : runs (mRows tbl hl) 0 w = numOf hl (runs tbl 0 w) := by
    have := runs_num (fin := fin) k b.hlen b.like w 0 k.one hw
    rw [num_zero h0] at this
    exact this
  rw [e, ends_num b.hlen b.like (runs_lt k w 0 k.one hw), List.getElem?_map, ks_runs b k w 0 s0 b.wi.one hw]
  simp
end
end LH

namespace LH
open PySem PySem.Spec PyProof.Rows L2 NdefX LamX
def marksOf (M : Mach) : List Bool := (List.range M.rows.length).map fun s => decide (s ∈ M.ends)
section
variable {P : Program} {w : World} {K : PySem.W.Frag} {mg : Str → Option Value} {base : Heap}
/-! ### end_marks -/
def sp_end_marks : Sp := fun vs H Q _ => ∃ (m : Addr) (M : Mach), vs = [.ref m] ∧ MachAt H m M ∧ M.Ok ∧ M.rows.length ≤ 1000000 ∧ ∀ H' p, Same H H' → H p = none → H' p = some (.lst ((marksOf M).map V.bl)) → Q (.ref p) H'
def marks_ (n : Nat) (es : List Nat) : List Bool := (List.range n).map fun s => decide (s ∈ es)
theorem marks_set {n : Nat} {es : List Nat} {e : Nat} (_ : e < n) : (marks_ n es).set e true = marks_ n (es ++ [e]) := by
  refine List.ext_getElem? fun i => ?_
  unfold marks_
  by_cases hi : i < n
  · rw [List.getElem?_set]
    simp only [List.getElem?_map, List.getElem?_range hi, List.length_map, List.length_range, Option.map_some, List.mem_append, List.mem_singleton]
    by_cases q : e = i
    · subst q
      simp [hi]
    · have q' : ¬ i = e := fun z => q z.symm
      simp [q, q']
  · rw [List.getElem?_eq_none (by simp; omega), List.getElem?_eq_none (by simp; omega)]
theorem ok_end_marks (T : TX K mg) : FnOk P w K mg base CX0 1 T.a_end_marks T.fd_end_marks ["machine"] sp_end_marks := by
  refine T.F_end_marks.ok sc_end_marks (fun vs H Q E h => ?_) (fun cdv A outer s H vs Q E hr h => ?_)
  · obtain ⟨m, M, rfl, _⟩ := h
    rfl
  · obtain ⟨m, M, rfl, ⟨t, e, as, h1, h2, h3, h4⟩, k, hb, q⟩ := h
    refine ⟨_, (pss_cons (ps_asg (pv 0) (pg_tupK (n := 3) K rfl (by rfl) (pgs_cons (pg_name (i := 1) sc_end_marks.nd rfl (Or.inl rfl)) (pgs_cons (pg_name (i := 2) sc_end_marks.nd rfl (Or.inl rfl)) (pgs_cons (pg_name (i := 3) sc_end_marks.nd rfl (Or.inl rfl)) pgs_nil)))))
      (pss_cons (ps_setLc (i := 4) (own := [("row", 6)]) (g := gName 6) (tt := tYes) (by rfl) sc_end_marks.nd rfl rfl (sw_true rfl rfl rfl (by decide +kernel)) (pi_tupK K rfl (pv 2)) (blkOk_by (own := [("row", 6)]) (N := N_end_marks) (by kernel_rfl)) (fun _ _ _ _ _ => (pg_name (i := 6) sc_end_marks.nd rfl (by first | exact Or.inl rfl | exact Or.inr rfl))) (fun _ _ _ _ _ => pts_nil) (fun _ _ _ _ _ => pe_bl))
      (pss_cons (ps_for PassesOwn.never rfl (pi_tupK K rfl (pv 3)) (pg_name (i := 5) sc_end_marks.nd rfl (Or.inl rfl))
        (pss_one (ps_asg pe_bl (pg_sub (pv 4) (pv 5) set_list))))
      (pss_one (ps_ret (pv 4)))))), ?_⟩
    refine ⟨.ref m, rfl, m, [.str M.z, .ref t, .ref e], rfl, .inl (.inl h1), rfl, .str M.z, _, rfl, .ref t, _, rfl, .ref e, [], rfl, rfl, ?_⟩
    refine ⟨.ref t, rfl, t, rfl, ⟨_, .inl (.inl h2)⟩, fun D nD => ?_⟩
    refine lc_it (walk_tup (K := K) (a := t) (xs := vr as)) (fun i H' => H' = upd H D (.lst ((List.replicate i false).map V.bl))) rfl (fun i H' _ hW => ?_) (fun i x H1 H1' hi hW hY => ?_) (fun H1 hW => ?_)
    · rw [hW]
      exact .inl (.inl (same_new nD _ _ h2))
    · obtain ⟨rfl, _⟩ := hY
      subst hW
      rw [List.length_map, h3.1] at hi
      refine ⟨rfl, lcyes ⟨_, upd_same, ?_, ?_⟩⟩
      · rw [List.length_map, List.length_replicate]
        exact Nat.lt_of_le_of_lt (show i ≤ 1000000 by omega) (by decide)
      · rw [upd_upd, List.replicate_succ', List.map_append]
        rfl
    · subst hW
      rw [List.length_map, h3.1]
      have e0 : List.replicate M.rows.length false = marks_ M.rows.length [] := by
        unfold marks_
        rw [List.map_congr_left (g := fun _ => false) (fun a _ => by simp), List.map_const', List.length_range]
      rw [e0]
      refine ⟨.ref e, rfl, e, rfl, ⟨_, .inl (.inl (same_new nD _ _ h4))⟩, ?_⟩
      refine for_it (walk_tup (K := K) (a := e) (xs := vi M.ends)) (fun i σ H' => (Same H H' ∧ H' D = some (.lst ((marks_ M.rows.length (M.ends.take i)).map V.bl))) ∧ ∃ y5, σ = [some (.ref m), some (.str M.z), some (.ref t), some (.ref e), some (.ref D), y5, none]) ⟨⟨same_new nD, upd_same⟩, none, rfl⟩ (fun i σ H' _ hW => .inl (.inl (hW.1.1 _ _ h4))) (fun i x σ H1 H1' hi hW hY => ?_) (fun σ H1 hW => ?_)
      · obtain ⟨⟨sm, w1⟩, y5, rfl⟩ := hW
        obtain ⟨rfl, hx⟩ := hY
        obtain ⟨u, hu, rfl⟩ := int_at hx
        have hul := k.endl u (List.mem_of_getElem? hu)
        refine ⟨.ref D, rfl, .int (u : Int), rfl, D, _, (u : Int), u, rfl, rfl, w1, ixN_nat (by rw [List.length_map]; unfold marks_; rw [List.length_map, List.length_range]; exact hul), ⟨fun b o eb => ?_, ?_⟩, _, rfl⟩
        · rw [upd_ne (ne_of_none eb nD)]
          exact sm _ _ eb
        · rw [upd_same, take_snoc hu, ← marks_set hul, List.map_set]
      · obtain ⟨⟨sm, w1⟩, y5, rfl⟩ := hW
        have et : M.ends.take (vi M.ends).length = M.ends := List.take_of_length_le (by rw [List.length_map]; exact Nat.le_refl _)
        rw [et] at w1
        exact ⟨.ref D, rfl, q H1 D sm nD w1⟩
end
end LH

namespace LH
open PySem PySem.Spec PyProof.Rows L2 NdefX LamX
/-! ### a machine's data -/
def dI (ns : List Nat) : PyData := .tuple (ns.map fun (n : Nat) => PyData.int (n : Int))
def dM (M : Mach) : PyData := .tuple [.str M.z, .tuple (M.rows.map dI), dI M.ends]
theorem dp_ints {K : PySem.W.Frag} {H : Hp} : ∀ ns : List Nat, DpAll K H (vi ns) (ns.map fun (n : Nat) => PyData.int (n : Int))
  | [] => .nil
  | n :: r => .cons (.int _) (dp_ints r)
theorem dp_rows {K : PySem.W.Frag} {H : Hp} : ∀ {as : List Addr} {rows : List (List Nat)}, RowsAt H as rows → DpAll K H (vr as) (rows.map dI)
  | [], [], _ => .nil
  | [], _ :: _, h => nomatch h.1
  | _ :: _, [], h => nomatch h.1
  | a :: as, r :: rows, h => .cons (.tup (.inl (.inl (h.2 0 a r rfl rfl))) (dp_ints r)) (dp_rows ⟨Nat.succ.inj h.1, fun i b p x y => h.2 (i + 1) b p x y⟩)
theorem dp_mach {K : PySem.W.Frag} {H : Hp} {p : Addr} {M : Mach} (h : MachAt H p M) : Dp K H (.ref p) (dM M) := by
  obtain ⟨t, e, as, h1, h2, h3, h4⟩ := h
  exact .tup (.inl (.inl h1)) (.cons (.str _) (.cons (.tup (.inl (.inl h2)) (dp_rows h3)) (.cons (.tup (.inl (.inl h4)) (dp_ints _)) .nil)))
theorem can_ints : ∀ ns : List Nat, PyData.canLayAll0 (ns.map fun (n : Nat) => PyData.int (n : Int)) = true
  | [] => rfl
  | _ :: r => by simp [PyData.canLayAll0, PyData.canLay0, can_ints r]
theorem can_rows : ∀ rows : List (List Nat), PyData.canLayAll0 (rows.map dI) = true
  | [] => rfl
  | r :: rows => by
    have h1 : PyData.canLay0 (dI r) = true := by
      unfold dI
      simp [PyData.canLay0, can_ints]
    simp [PyData.canLayAll0, h1, can_rows rows]
theorem depth_ints : ∀ ns : List Nat, PyData.depthAll (ns.map fun (n : Nat) => PyData.int (n : Int)) = 0
  | [] => rfl
  | _ :: r => by simp [PyData.depthAll, PyData.depth, depth_ints r]
theorem depth_rows : ∀ rows : List (List Nat), PyData.depthAll (rows.map dI) ≤ 1
  | [] => Nat.zero_le _
  | r :: rows => by
    have h1 : PyData.depth (dI r) = 1 := by
      unfold dI
      simp [PyData.depth, depth_ints]
    simp [PyData.depthAll, h1, depth_rows rows]
theorem strOk_let {z : Str} (h : IsLet z) : PyData.strOk z = true := by
  unfold PyData.strOk
  rw [Array.all_eq_true']
  intro c hc
  have := (h.small c (Array.mem_toList_iff.mpr hc)).2
  simp
  omega
theorem can_mach {M : Mach} (k : M.Ok) : (dM M).canLay0 = true := by
  have h1 := strOk_let k.let_
  have h2 : PyData.canLay0 (dI M.ends) = true := by
    unfold dI
    simp [PyData.canLay0, can_ints]
  unfold dM
  simp [PyData.canLay0, PyData.canLayAll0, h1, h2, can_rows]
theorem shaped_mach {M : Mach} (k : M.Ok) : SeqAt.shaped (dM M) = true := by
  unfold SeqAt.shaped
  rw [can_mach k]
  have h1 := depth_rows M.rows
  have h2 : PyData.depth (dI M.ends) = 1 := by
    unfold dI
    simp [PyData.depth, depth_ints]
  have : (dM M).depth ≤ 64 := by
    unfold dM
    simp only [PyData.depth, PyData.depthAll, h2]
    omega
  rw [decide_eq_true this]
  rfl
theorem ne_mach {M : Mach} (k : M.Ok) : (!PyData.eqv (dM M) (dM M)) = false := by
  rw [SeqAt.eqv_refl _ (can_mach k)]
  rfl
theorem shaped_vi (ns : List Nat) : SeqAt.shaped (.list (ns.map fun (n : Nat) => PyData.int (n : Int))) = true := by
  have all : PyData.canLayAll0 (ns.map fun (n : Nat) => PyData.int (n : Int)) = true ∧ PyData.depthAll (ns.map fun (n : Nat) => PyData.int (n : Int)) = 0 := by
    induction ns with
    | nil => exact ⟨rfl, rfl⟩
    | cons n r ih =>
      refine ⟨?_, ?_⟩
      · show (true && PyData.canLayAll0 (r.map fun (n : Nat) => PyData.int (n : Int))) = true
        rw [ih.1]
        rfl
      · show max 0 (PyData.depthAll (r.map fun (n : Nat) => PyData.int (n : Int))) = 0
        rw [ih.2]
        rfl
  unfold SeqAt.shaped
  rw [Bool.and_eq_true]
  refine ⟨all.1, decide_eq_true ?_⟩
  show PyData.depthAll (ns.map fun (n : Nat) => PyData.int (n : Int)) + 1 ≤ 64
  omega
end LH

namespace LH
open PySem PySem.Spec PyProof.Rows L2 NdefX LamX
theorem take_snocQ {α : Type} {xs : List α} {i : Nat} {x : α} (h : xs[i]? = some x) : xs.take (i + 1) = xs.take i ++ [x] := by
  rw [List.take_add_one, h]
  rfl
/-! ### lists of texts -/
abbrev vS (ws : List Str) : List V := ws.map V.str
theorem vS_snoc (ws : List Str) (x : Str) : vS ws ++ [V.str x] = vS (ws ++ [x]) := by
  show List.map _ _ ++ _ = List.map _ _
  rw [List.map_append]
  rfl
theorem vS_app (ws us : List Str) : vS ws ++ vS us = vS (ws ++ us) := (List.map_append ..).symm
def WOk (z : Str) (n : Nat) (ws : List Str) : Prop := ∀ x ∈ ws, x.length ≤ n ∧ ∀ c ∈ x.cps.toList, c ∈ z.cps.toList
/-- all words of so many letters are there -/
def WAll (z : Str) (n : Nat) (ws : List Str) : Prop := ∀ x : Str, x.length = n → (∀ c ∈ x.cps.toList, c ∈ z.cps.toList) → x ∈ ws
theorem str_at {ws : List Str} {i : Nat} {x : V} (h : (vS ws)[i]? = some x) : ∃ s, ws[i]? = some s ∧ x = .str s := by
  rw [List.getElem?_map] at h
  obtain ⟨a, e, z⟩ := Option.map_eq_some_iff.mp h
  exact ⟨a, e, z.symm⟩
theorem str_last {x : Str} {n : Nat} (h : x.length = n + 1) : ∃ (y : Str) (c : Nat), x = y ++ sg c ∧ y.length = n ∧ (∀ d ∈ y.cps.toList, d ∈ x.cps.toList) ∧ c ∈ x.cps.toList := by
  have hl : x.cps.toList.length = n + 1 := by
    rw [Array.length_toList]
    exact h
  have hne : x.cps.toList ≠ [] := fun z => by
    rw [z] at hl
    cases hl
  refine ⟨⟨x.cps.toList.dropLast.toArray⟩, x.cps.toList.getLast hne, ?_, ?_, fun d hd => ?_, List.getLast_mem hne⟩
  · have e := List.dropLast_concat_getLast hne
    cases x with
    | mk cps =>
      show (⟨cps⟩ : Str) = ⟨cps.toList.dropLast.toArray ++ #[cps.toList.getLast hne]⟩
      congr 1
      refine Array.toList_inj.mp ?_
      rw [Array.toList_append]
      exact e.symm
  · show (x.cps.toList.dropLast.toArray).size = n
    rw [List.size_toArray, List.length_dropLast, hl]
    rfl
  · exact List.dropLast_subset _ hd
end LH

namespace LH
open PySem PySem.Spec PyProof.Rows L2 NdefX LamX
/-! ### letters turned round -/
abbrev AZ : Str := "abcdefghijklmnopqrstuvwxyz"
def rot (t c : Nat) : Nat := 97 + (c - 97 + t) % 26
theorem az_idx : ∀ k : Fin 26, AZ.cps.toList.idxOf (97 + k.val) = k.val ∧ AZ.cps.toList[k.val]? = some (97 + k.val) := by decide +kernel
theorem az_len : AZ.length = 26 := by decide +kernel
theorem az_mem {c : Nat} (h : 97 ≤ c ∧ c ≤ 122) : c ∈ AZ.cps.toList ∧ AZ.cps.toList.idxOf c = c - 97 := by
  obtain ⟨a, b⟩ := az_idx ⟨c - 97, by omega⟩
  have e : 97 + (c - 97) = c := by omega
  simp only [e] at a b
  exact ⟨List.mem_of_getElem? b, a⟩
theorem rot_az (t c : Nat) : 97 ≤ rot t c ∧ rot t c ≤ 122 := by
  unfold rot
  omega
theorem rot_inj {t a b : Nat} (ha : 97 ≤ a ∧ a ≤ 122) (hb : 97 ≤ b ∧ b ≤ 122) (e : rot t a = rot t b) : a = b := by
  unfold rot at e
  omega
theorem sum_sg1 (cs : List Nat) : ((cs.map sg).map (·.length)).sum = cs.length := by
  rw [List.map_map, show ((fun x : Str => x.length) ∘ sg) = fun _ => 1 from rfl, List.map_const', List.sum_replicate_nat]
  omega
/-! ### texts of one length -/
def WEx (z : Str) (n : Nat) (ws : List Str) : Prop := ∀ x ∈ ws, x.length = n ∧ ∀ c ∈ x.cps.toList, c ∈ z.cps.toList
/-! ### windows -/
abbrev txt (y : List Nat) : Str := ⟨y.toArray⟩
def win (n : Nat) (t : List Nat) (k : Nat) : List Nat := (t.drop k).take n
def framed (n : Nat) (w : List Nat) : List Nat := List.replicate (n - 1) 94 ++ w ++ List.replicate (n - 1) 36
theorem framed_len (n : Nat) (w : List Nat) : (framed n w).length = w.length + 2 * (n - 1) := by
  unfold framed
  rw [List.length_append, List.length_append, List.length_replicate, List.length_replicate]
  omega
theorem s_front : (Str.ofString "^" : Str) = ⟨#[94]⟩ := by decide +kernel
theorem s_back : (Str.ofString "$" : Str) = ⟨#[36]⟩ := by decide +kernel
theorem repS_sg (c n : Nat) : repS ⟨#[c]⟩ n = txt (List.replicate n c) := by
  unfold repS
  congr 2
  induction n with
  | zero => rfl
  | succ n ih =>
    rw [List.replicate_succ, List.flatten_cons, ih, List.replicate_succ]
    rfl
theorem txt_app (a b : List Nat) : txt a ++ txt b = txt (a ++ b) := by
  show (⟨a.toArray ++ b.toArray⟩ : Str) = ⟨(a ++ b).toArray⟩
  congr 1
  refine Array.toList_inj.mp ?_
  rw [Array.toList_append]
theorem txt_len (a : List Nat) : (txt a).length = a.length := List.size_toArray
theorem txt_list (v : Str) : txt v.cps.toList = v := by
  cases v
  rfl
theorem txt_inj {a b : List Nat} (h : txt a = txt b) : a = b := by
  have := congrArg (fun z : Str => z.cps.toList) h
  exact this
theorem cut_win {t : List Nat} {k n : Nat} (h : k + n ≤ t.length) : cutS (txt t) (some (k : Int)) (some ((k : Int) + (n : Int))) = txt (win n t k) := by
  unfold cutS win
  rw [txt_len, HT.sIx_nat, show ((k : Int) + (n : Int)) = ((k + n : Nat) : Int) by omega, HT.sIx_nat, Nat.min_eq_left (by omega), Nat.min_eq_left (by omega), show k + n - k = n by omega]
section
variable {P : Program} {w : World} {K : PySem.W.Frag} {mg : Str → Option Value} {base : Heap}
/-! ### _law_turned -/
def sp_law_turned : Sp := fun vs H Q _ => ∃ (r : Addr) (z : Str), vs = [.ref r, .str z] ∧ RowAt H r ∧ IsLet z ∧ ∀ H' z', Off r H H' → RowAt H' r → IsLet z' → z'.length = z.length → Q (.str z') H'
theorem ok_law_turned (T : TX K mg) : FnOk P w K mg base CX0 2 T.a_law_turned T.fd_law_turned ["purse", "letters"] sp_law_turned := by
  have G_law_next : FnOk P w K mg base CX0 1 T.a_law_next T.fd_law_next ["purse"] sp_law_next := ok_law_next T
  refine T.F_law_turned.ok sc_law_turned (fun vs H Q E h => ?_) (fun cdv A outer s H vs Q E hr h => ?_)
  · obtain ⟨r, z, rfl, _⟩ := h
    rfl
  · obtain ⟨r, z, rfl, hR, hz, q⟩ := h
    refine ⟨_, (pss_cons (ps_set (i := 2) sc_law_turned.nd rfl (Or.inr rfl) pe_str)
      (pss_cons (ps_set (i := 3) sc_law_turned.nd rfl (Or.inr rfl) (pe_op op_mod (pe_call G_law_next (hr.mono (by decide)) (by rfl) T.g_law_next T.F_law_next.kp T.b_law_next .nil pass0 (pa_cons (pv 0) pa_nil)) pe_int))
      (pss_one (ps_ret (pe_m1 PySem.F.slot_str_join PySem.F.type_str_join (mt_joinK K rfl) pe_str (pe_callB (cr_sortedSK K rfl) (by rfl) T.m_sorted (by decide +kernel) (pa_cons (pe_lc (own := [("sign", 4)]) (g := gName 4) (tt := tYes) (by rfl) sc_law_turned.nd (pi_str (pv 1)) (blkOk_by (own := [("sign", 4)]) (N := N_law_turned) (by kernel_rfl)) (fun _ _ _ _ _ => (pg_name (i := 4) sc_law_turned.nd rfl (by first | exact Or.inl rfl | exact Or.inr rfl))) (fun _ _ _ _ _ => pts_nil) (fun _ _ _ _ _ => (pe_ix ix_str (pv 2) (pe_op op_mod (pe_op op_add (pe_m1 PySem.F.slot_str_index PySem.F.type_str_index mt_sindex (pv 2) (pv 4)) (pv 3)) pe_int) (fun _ _ => rfl)))) pa_nil))))))), ?_⟩
    have z1 := hz.one
    have z5 := hz.five
    have zl : z.cps.toList.length = z.length := Array.length_toList
    refine ⟨.ref r, rfl, r, rfl, hR, fun H1 g o1 R1 => ⟨g, 26, rfl, rfl, (by show (0 : Int) < 26; decide), ?_⟩⟩
    have g0 := Int.emod_nonneg g (show (26 : Int) ≠ 0 by decide)
    have g1 := Int.emod_lt_of_pos g (show (0 : Int) < 26 by decide)
    obtain ⟨t, ht⟩ : ∃ t : Nat, g % 26 = (t : Int) := ⟨(g % 26).toNat, by omega⟩
    refine ⟨⟨_, rfl⟩, .str z, rfl, z, rfl, fun D nD => ?_⟩
    refine lc_it walk_str (fun i H' => Same H1 H' ∧ H' D = some (.lst (vs_ ((z.cps.toList.take i).map (rot t))))) ⟨same_new nD, upd_same⟩ (fun _ _ _ _ => trivial) (fun i v H2 H2' hi hW hY => ?_) (fun H2 hW => ?_)
    · obtain ⟨s2, eD⟩ := hW
      obtain ⟨rfl, c, hc, rfl⟩ := hY
      have hc' : z.cps.toList[i]? = some c := by
        rw [Array.getElem?_toList]
        exact hc
      have hcz := hz.small c (List.mem_of_getElem? hc')
      obtain ⟨m1, m2⟩ := az_mem hcz
      obtain ⟨rest, eo⟩ := occ_sign m1
      have hi : i < z.length := hi
      refine ⟨rfl, lcyes ?_⟩
      refine ⟨.str AZ, rfl, .str AZ, rfl, ⟨_, rfl⟩, .str (sg c), rfl, AZ, sg c, _, rest, rfl, rfl, eo, _, rfl, _, _, rfl, rfl, _, 26, rfl, rfl, (by show (0 : Int) < 26; decide), AZ, _, rot t c, rfl, rfl, by rw [az_len]; decide, ?_, _, eD, ?_, same_putN s2 nD, ?_⟩
      · rw [ht, m2, show (((c - 97 : Nat) : Int) + (t : Int)) % 26 = (((c - 97 + t) % 26 : Nat) : Int) by omega]
        exact atI_nat (az_idx ⟨(c - 97 + t) % 26, by omega⟩).2
      · rw [List.length_map, List.length_map, List.length_take]
        exact small1000 (by omega)
      · rw [upd_same, vs_snoc, List.take_add_one, hc', List.map_append]
        rfl
    · obtain ⟨s2, eD⟩ := hW
      rw [List.take_of_length_le (by rw [zl]; exact Nat.le_refl _)] at eD
      have ll : (z.cps.toList.map (rot t)).length = z.length := by rw [List.length_map, zl]
      refine ⟨D, (z.cps.toList.map (rot t)).map sg, rfl, .inl (.inl (by rw [List.map_map]; exact eD)), by rw [List.length_map, ll]; omega, fun zs p6 perm srt n6 => ?_⟩
      obtain ⟨ds, rfl, pd⟩ := perm_sg perm
      have hdn : ds.length = z.length := by rw [pd.length_eq, ll]
      have R2 := R1.same s2
      refine ⟨⟨#[]⟩, p6, ds.map sg, rfl, rfl, .inl (.inl (.inl upd_same)), ?_, ?_⟩
      · rw [List.length_map, sum_sg1]
        show ds.length + ds.length * 0 ≤ 16777216
        omega
      · rw [join_sg]
        have nd : ds.Nodup := pd.symm.nodup (List.pairwise_map.mpr ((hz.rise.imp fun h => Nat.ne_of_lt h).imp_of_mem fun {a b} ha hb ne e => ne (rot_inj (hz.small a ha) (hz.small b hb) e)))
        have sz : (⟨ds.toArray⟩ : Str).length = z.length := by rw [← hdn]; exact List.size_toArray
        refine q _ _ (o1.trans ((Off.of s2).trans (Off.new n6))) (R2.new n6) ⟨by omega, by omega, rise_of (sortedS_sg srt) nd, fun c hc => ?_⟩ sz
        obtain ⟨d, _, rfl⟩ := List.mem_map.mp (pd.mem_iff.mp hc)
        exact rot_az t d
/-! ### _law_texts -/
def sp_law_texts : Sp := fun vs H Q _ => ∃ (z : Str) (n : Nat), vs = [.str z, .int (n : Int)] ∧ IsLet z ∧ n ≤ 100 ∧ z.length ^ n ≤ 1000 ∧
  ∀ H' p ws, Same H H' → H p = none → H' p = some (.lst (vS ws)) → ws.length = z.length ^ n → WEx z n ws → WAll z n ws → Q (.ref p) H'
theorem ok_law_texts (T : TX K mg) : FnOk P w K mg base CX0 1 T.a_law_texts T.fd_law_texts ["letters", "size"] sp_law_texts := by
  refine T.F_law_texts.ok sc_law_texts (fun vs H Q E h => ?_) (fun cdv A outer s H vs Q E hr h => ?_)
  · obtain ⟨z, n, rfl, _⟩ := h
    rfl
  · obtain ⟨z, n, rfl, hz, hn, hp, q⟩ := h
    refine ⟨_, (pss_cons (ps_set (i := 2) sc_law_texts.nd rfl (Or.inl rfl) (pe_lst (pa_cons pe_str pa_nil)))
      (pss_cons (ps_for PassesOwn.never rfl (pi_range1 (by rfl) T.m_range (pa_cons (pv 1) pa_nil)) (pg_name (i := 3) sc_law_texts.nd rfl (Or.inl rfl))
        (pss_cons (ps_set (i := 4) sc_law_texts.nd rfl (Or.inl rfl) (pe_lst pa_nil))
          (pss_cons (ps_for PassesOwn.never rfl (pi_listK K rfl (pv 2)) (pg_name (i := 5) sc_law_texts.nd rfl (Or.inr rfl))
            (pss_one (ps_expr (pe_bmK K rfl PySem.F.plainAttrs_list PySem.F.slot_list_extend PySem.F.type_list_extend mt_extend (pv 4) (pa_cons (pe_lc (own := [("letter", 6)]) (g := gName 6) (tt := tYes) (by rfl) sc_law_texts.nd (pi_str (pv 0)) (blkOk_by (own := [("letter", 6)]) (N := N_law_texts) (by kernel_rfl)) (fun _ _ _ _ _ => (pg_name (i := 6) sc_law_texts.nd rfl (by first | exact Or.inl rfl | exact Or.inr rfl))) (fun _ _ _ _ _ => pts_nil) (fun _ _ _ _ _ => (pe_op op_add_str (pv 5) (pv 6)))) pa_nil)))))
          (pss_one (ps_set (i := 2) sc_law_texts.nd rfl (Or.inl rfl) (pv 4))))))
      (pss_one (ps_ret (pv 2))))), ?_⟩
    have h1 := hz.one
    have h5 := hz.five
    have hpow : ∀ i, i ≤ n → z.length ^ i ≤ 1000 := fun i hi => Nat.le_trans (Nat.pow_le_pow_right h1 hi) hp
    have sl : ∀ m, m ≤ 1000000 → m ≤ sizeLine := fun m hm => Nat.le_trans hm (by decide)
    refine ⟨by show 1 ≤ sizeLine; decide, fun p0 np0 => ?_⟩
    refine ⟨.int (n : Int), rfl, (n : Int), rfl, by omega, by omega, ?_⟩
    refine for_range (lo := 0) (n := (n : Int).toNat) (fun i σ H' => ∃ (fp : Addr) (fs : List Str) (y3 y4 y5 : Option V), σ = [some (.str z), some (.int (n : Int)), some (.ref fp), y3, y4, y5, none] ∧ Same H H' ∧ H fp = none ∧ H' fp = some (.lst (vS fs)) ∧ fs.length = z.length ^ i ∧ WEx z i fs ∧ WAll z i fs) ⟨p0, [⟨#[]⟩], none, none, none, rfl, same_new np0, np0, upd_same, rfl, ?_, ?_⟩ (fun i σ H1 hi hW => ?_) (fun σ H1 hW => ?_)
    · intro x hx
      rw [List.mem_singleton.mp hx]
      exact ⟨rfl, fun c hc => nomatch hc⟩
    · intro x hx _
      cases x with
      | mk cps =>
        rw [show cps = #[] from Array.size_eq_zero_iff.mp hx]
        exact List.mem_singleton.mpr rfl
    · obtain ⟨fp, fs, y3, y4, y5, rfl, sm1, nf, ef, lf, okf, alf⟩ := hW
      have hin : i < n := by omega
      have hpi := hpow (i + 1) hin
      rw [Nat.pow_succ] at hpi
      refine ⟨by show 0 ≤ sizeLine; decide, fun lp nlp => ?_⟩
      have ef2 := same_new (o := .lst []) nlp _ _ ef
      have flp : H lp = none := by
        cases e : H lp with
        | none => rfl
        | some o =>
          rw [sm1 _ _ e] at nlp
          cases nlp
      have flp' : fp ≠ lp := ne_of_none ef nlp
      refine ⟨.ref fp, rfl, fp, rfl, ⟨_, .inl (.inl ef2)⟩, ?_⟩
      refine for_it (walk_list (K := K) (a := fp) (xs := vS fs)) (fun j σ H' => ∃ (ls : List Str) (y5 : Option V), σ = [some (.str z), some (.int (n : Int)), some (.ref fp), some (.int (0 + (i : Int))), some (.ref lp), y5, none] ∧ Same H1 H' ∧ H' lp = some (.lst (vS ls)) ∧ ls.length = j * z.length ∧ WEx z (i + 1) ls ∧ ∀ y ∈ fs.take j, ∀ c ∈ z.cps.toList, y ++ sg c ∈ ls) ⟨[], y5, rfl, same_new nlp, upd_same, by rw [Nat.zero_mul]; rfl, (fun _ h => nomatch h), fun y h => by rw [List.take_zero] at h; cases h⟩ (fun j σ H' _ hW => ?_) (fun j x σ H2 H2' hj hW hY => ?_) (fun σ H2 hW => ?_)
      · obtain ⟨_, _, _, sz, _⟩ := hW
        exact .inl (.inl (sz _ _ ef))
      · obtain ⟨ls, y5, rfl, sm2, elp, ll, okl, cl⟩ := hW
        obtain ⟨rfl, hx⟩ := hY
        obtain ⟨x, hx', rfl⟩ := str_at hx
        obtain ⟨xl, xc⟩ := okf x (List.mem_of_getElem? hx')
        rw [List.length_map, lf] at hj
        have hjz : j * z.length + z.length ≤ 1000 := by
          have h2 := Nat.mul_le_mul_right z.length (show j + 1 ≤ z.length ^ i from hj)
          rw [Nat.add_mul, Nat.one_mul] at h2
          omega
        refine ⟨.ref lp, rfl, .inl ⟨rfl, _, .inl (.inl elp)⟩, .str z, rfl, z, rfl, fun D nD => ?_⟩
        have dlp : lp ≠ D := ne_of_none elp nD
        refine lc_it walk_str (fun k H' => H' = L2.upd H2' D (.lst (vS ((z.cps.toList.take k).map fun c => x ++ sg c)))) rfl (fun _ _ _ _ => trivial) (fun k y H3 H3' hk hW hY => ?_) (fun H3 hW => ?_)
        · subst hW
          obtain ⟨rfl, c, hc, rfl⟩ := hY
          have hc' : z.cps.toList[k]? = some c := by
            rw [Array.getElem?_toList]
            exact hc
          have hkz : k < z.length := hk
          refine ⟨rfl, lcyes ?_⟩
          refine ⟨.str x, rfl, .str (sg c), rfl, x, sg c, rfl, rfl, ?_, _, upd_same, ?_, ?_⟩
          · exact sl _ (show x.length + 1 ≤ 1000000 by omega)
          · rw [List.length_map, List.length_map, List.length_take]
            exact Nat.lt_of_lt_of_le (show _ < 1000 by omega) (by decide)
          · rw [upd_upd, vS_snoc, take_snocQ hc', List.map_append]
            rfl
        · subst hW
          have et : z.cps.toList.take z.cps.size = z.cps.toList := List.take_of_length_le (by rw [Array.length_toList]; exact Nat.le_refl _)
          rw [et]
          refine ⟨lp, D, vS ls, _, rfl, rfl, by rw [upd_ne dlp]; exact elp, upd_same, ?_, ls ++ z.cps.toList.map (fun c => x ++ sg c), _, rfl, same_putN (sm2.trans (same_new nD)) nlp, ?_, ?_, fun y hy => ?_, fun y hy c hc => ?_⟩
          · rw [List.length_map, List.length_map, List.length_map, Array.length_toList]
            exact sl _ (show ls.length + z.length ≤ 1000000 by omega)
          · rw [upd_same, vS_app]
          · rw [List.length_append, ll, List.length_map, Array.length_toList, Nat.add_mul, Nat.one_mul]
            rfl
          · rcases List.mem_append.mp hy with hy | hy
            · exact okl y hy
            · obtain ⟨c, hc, rfl⟩ := List.mem_map.mp hy
              refine ⟨?_, fun d hd => ?_⟩
              · show (x.cps ++ #[c]).size = i + 1
                rw [Array.size_append]
                have : x.cps.size = i := xl
                show x.cps.size + 1 = i + 1
                omega
              · have hd' : d ∈ (x.cps ++ #[c]).toList := hd
                rw [Array.toList_append] at hd'
                rcases List.mem_append.mp hd' with z1 | z1
                · exact xc d z1
                · rw [List.mem_singleton.mp z1]
                  exact hc
          · rw [take_snocQ hx'] at hy
            rcases List.mem_append.mp hy with hy | hy
            · exact List.mem_append_left _ (cl y hy c hc)
            · rw [List.mem_singleton.mp hy]
              exact List.mem_append_right _ (List.mem_map.mpr ⟨c, hc, rfl⟩)
      · obtain ⟨ls, y5, rfl, sm2, elp, ll, okl, cl⟩ := hW
        rw [List.length_map, lf] at ll
        rw [List.length_map, List.take_of_length_le (Nat.le_refl _)] at cl
        exact ⟨.ref lp, rfl, lp, ls, _, _, _, rfl, sm1.trans sm2, flp, elp, by rw [ll, Nat.pow_succ], okl, fun x hx hc => by
          obtain ⟨y, c, rfl, hy, h2, h3⟩ := str_last hx
          exact cl y (alf y hy fun d hd => hc d (h2 d hd)) c (hc c h3)⟩
    · obtain ⟨fp, fs, y3, y4, y5, rfl, sm1, nf, ef, lf, okf, alf⟩ := hW
      rw [Int.toNat_natCast] at lf okf alf
      exact ⟨.ref fp, rfl, q H1 fp fs sm1 nf ef lf okf alf⟩
end
end LH

namespace LH
open PySem PySem.Spec PyProof.Rows L2 NdefX LamX LU
theorem same_mut {H H' : Hp} {p : Addr} {o : HO} (e : Same H H') (h : H p = none) : Same H (upd H' p o) := fun b x eb => by
  rw [upd_ne (ne_of_none eb h)]
  exact e b x eb
/-! ### dicts whose keys are texts -/
def KeysT (kvs : List (Key × V)) (W : List Str) : Prop := kvs.map (fun kv => kv.1) = W.map Sum.inr
theorem keysT_any {kvs : List (Key × V)} {W : List Str} (h : KeysT kvs W) (y : Str) : (kvs.any fun kv => decide (kv.1 = Sum.inr y)) = decide (y ∈ W) := by
  rw [Bool.eq_iff_iff, List.any_eq_true, decide_eq_true_iff]
  constructor
  · rintro ⟨kv, hm, e⟩
    have : Sum.inr y ∈ kvs.map (fun kv => kv.1) := List.mem_map.mpr ⟨kv, hm, of_decide_eq_true e⟩
    rw [show kvs.map (fun kv => kv.1) = W.map Sum.inr from h] at this
    obtain ⟨u, hu, e2⟩ := List.mem_map.mp this
    cases e2
    exact hu
  · intro hy
    have : (Sum.inr y : Key) ∈ W.map Sum.inr := List.mem_map.mpr ⟨y, hy, rfl⟩
    rw [← show kvs.map (fun kv => kv.1) = W.map Sum.inr from h] at this
    obtain ⟨kv, hm, e⟩ := List.mem_map.mp this
    exact ⟨kv, hm, decide_eq_true e⟩
theorem keysT_put {kvs : List (Key × V)} {W : List Str} {y : Str} {z : V} (h : KeysT kvs W) : KeysT (putK kvs (Sum.inr y) z) (if y ∈ W then W else W ++ [y]) := by
  unfold putK
  rw [keysT_any h]
  by_cases m : y ∈ W
  · rw [if_pos (decide_eq_true m), if_pos m]
    unfold KeysT
    rw [List.map_map, ← show kvs.map (fun kv => kv.1) = W.map Sum.inr from h]
    refine List.map_congr_left fun kv _ => ?_
    show (if kv.1 = Sum.inr y then (kv.1, z) else kv).1 = kv.1
    split <;> rfl
  · rw [if_neg (by rw [decide_eq_false m]; exact Bool.false_ne_true), if_neg m]
    unfold KeysT
    rw [List.map_append, List.map_append, show kvs.map (fun kv => kv.1) = W.map Sum.inr from h]
    rfl
theorem keysT_vals {kvs : List (Key × V)} {W : List Str} (h : KeysT kvs W) : (kvs.map fun kv => kV kv.1) = vS W := by
  have : (kvs.map fun kv => kV kv.1) = (kvs.map (fun kv => kv.1)).map kV := by
    rw [List.map_map]
    rfl
  rw [this, show kvs.map (fun kv => kv.1) = W.map Sum.inr from h, List.map_map]
  rfl
theorem keysT_at {kvs : List (Key × V)} {W : List Str} (h : KeysT kvs W) {i : Nat} {k : Key} {v : V} (e : kvs[i]? = some (k, v)) : ∃ y, W[i]? = some y ∧ k = Sum.inr y := by
  have h1 : (kvs.map (fun kv => kv.1))[i]? = some k := by
    rw [List.getElem?_map, e]
    rfl
  rw [show kvs.map (fun kv => kv.1) = W.map Sum.inr from h, List.getElem?_map] at h1
  obtain ⟨y, hy, e2⟩ := Option.map_eq_some_iff.mp h1
  exact ⟨y, hy, e2.symm⟩
theorem keysT_len {kvs : List (Key × V)} {W : List Str} (h : KeysT kvs W) : kvs.length = W.length := by
  have := congrArg List.length (show kvs.map (fun kv => kv.1) = W.map Sum.inr from h)
  rw [List.length_map, List.length_map] at this
  exact this
theorem nodup_put {W : List Str} {y : Str} (h : W.Nodup) : (if y ∈ W then W else W ++ [y]).Nodup := by
  by_cases m : y ∈ W
  · rw [if_pos m]
    exact h
  · rw [if_neg m, List.nodup_append]
    refine ⟨h, (by simp), fun a ha b hb e => ?_⟩
    rw [List.mem_singleton.mp hb] at e
    exact m (e ▸ ha)
theorem mem_put {W : List Str} {y x : Str} : x ∈ (if y ∈ W then W else W ++ [y]) ↔ x ∈ W ∨ x = y := by
  by_cases m : y ∈ W
  · rw [if_pos m]
    exact ⟨.inl, fun h => h.elim id fun e => e ▸ m⟩
  · rw [if_neg m, List.mem_append, List.mem_singleton]
end LH

namespace LH
open PySem PySem.Spec PyProof.Rows L2 NdefX LamX
theorem idx_of_rise {cs : List Nat} (h : cs.Pairwise (· < ·)) {c : Nat} (hc : c < cs.length) : cs.idxOf (cs.getD c 0) = c := by
  have e : cs.getD c 0 = cs[c] := by
    rw [List.getD_eq_getElem?_getD, List.getElem?_eq_getElem hc]
    rfl
  have hm : cs.getD c 0 ∈ cs := by
    rw [e]
    exact List.getElem_mem hc
  have hi := List.idxOf_lt_length_iff.mpr hm
  have g : cs[cs.idxOf (cs.getD c 0)] = cs.getD c 0 := List.getElem_idxOf hi
  rcases Nat.lt_trichotomy (cs.idxOf (cs.getD c 0)) c with l | l | l
  · have := List.pairwise_iff_getElem.mp h _ _ hi hc l
    omega
  · exact l
  · have := List.pairwise_iff_getElem.mp h _ _ hc hi l
    omega
end LH

namespace LH
open PySem PySem.Spec PyProof.Rows L2 NdefX LamX
theorem back_hide {S : Addr → Prop} {H : Hp} : back S H (hide S H) = H := by
  funext b
  by_cases z : S b
  · rw [back_in z]
  · rw [back_out z, hide_out z]
theorem CellsT.sub {X : Cx} {H : Hp} {fr fr1 : List Str} {ws ws1 : List (Option V)} {cl : List (Str × Addr)} {js1 : List Nat} (C : CellsT H X.env.cells fr ws) (cap : Caps X cl fr1 js1) (len : ws1.length = fr1.length) (pos : ∀ (i : Nat) (y : Str), fr1[i]? = some y → ∃ i' : Nat, fr[i']? = some y ∧ ws[i']? = ws1[i]?) : CellsT H cl fr1 ws1 := by
  refine ⟨len, fun x y c h1 h2 => C.inj x y c (cap.sub x c h1) (cap.sub y c h2), fun y c h => C.all y c (cap.sub y c h), fun i y hy => ?_⟩
  obtain ⟨i', a, b⟩ := pos i y hy
  obtain ⟨c, hc, hv⟩ := C.has i' y a
  exact ⟨c, cap.sup y (List.mem_of_getElem? hy) c hc, fun v ev => hv v (by rw [b]; exact ev)⟩
end LH

namespace LH
open PySem PySem.Spec PyProof.Rows L2 NdefX LamX
/-! ### rows of groups of one number each -/
def GrpAt1 (H : Hp) (ra : Addr) (row : List Nat) : Prop := ∃ gas : List Addr, H ra = some (.lst (vr gas)) ∧ gas.length = row.length ∧ ∀ (c : Nat) (ga : Addr) (v : Nat), gas[c]? = some ga → row[c]? = some v → H ga = some (.lst (vi [v]))
def R3At (H : Hp) (ta : Addr) (ras : List Addr) (tbl : List (List Nat)) : Prop := H ta = some (.lst (vr ras)) ∧ ras.length = tbl.length ∧ ∀ (i : Nat) (ra : Addr) (row : List Nat), ras[i]? = some ra → tbl[i]? = some row → GrpAt1 H ra row
theorem GrpAt1.same {H H' : Hp} {ra : Addr} {row : List Nat} (s : Same H H') (h : GrpAt1 H ra row) : GrpAt1 H' ra row := by
  obtain ⟨gas, a, b, c⟩ := h
  exact ⟨gas, s _ _ a, b, fun i ga v x y => s _ _ (c i ga v x y)⟩
theorem R3At.same {H H' : Hp} {ta : Addr} {ras : List Addr} {tbl : List (List Nat)} (s : Same H H') (h : R3At H ta ras tbl) : R3At H' ta ras tbl := ⟨s _ _ h.1, h.2.1, fun i ra row x y => (h.2.2 i ra row x y).same s⟩
/-- as GrpAt1, apart from some addresses -/
def GrpS (X : Addr → Prop) (H : Hp) (ra : Addr) (row : List Nat) : Prop := ∃ gas : List Addr, ¬ X ra ∧ (∀ ga ∈ gas, ¬ X ga) ∧ H ra = some (.lst (vr gas)) ∧ gas.length = row.length ∧ ∀ (c : Nat) (ga : Addr) (v : Nat), gas[c]? = some ga → row[c]? = some v → H ga = some (.lst (vi [v]))
theorem GrpS.mono {X : Addr → Prop} {H H' : Hp} {ra : Addr} {row : List Nat} (s : ∀ b o, ¬ X b → H b = some o → H' b = some o) (h : GrpS X H ra row) : GrpS X H' ra row := by
  obtain ⟨gas, x1, x2, a, b, c⟩ := h
  exact ⟨gas, x1, x2, s _ _ x1 a, b, fun i ga v x y => s _ _ (x2 ga (List.mem_of_getElem? x)) (c i ga v x y)⟩
theorem GrpS.plain {X : Addr → Prop} {H : Hp} {ra : Addr} {row : List Nat} (h : GrpS X H ra row) : GrpAt1 H ra row := by
  obtain ⟨gas, x1, x2, a, b, c⟩ := h
  exact ⟨gas, a, b, c⟩
def RowsS (X : Addr → Prop) (H : Hp) (ras : List Addr) (tbl : List (List Nat)) : Prop := ras.length = tbl.length ∧ ∀ (i : Nat) (ra : Addr) (row : List Nat), ras[i]? = some ra → tbl[i]? = some row → GrpS X H ra row
theorem RowsS.mono {X : Addr → Prop} {H H' : Hp} {ras : List Addr} {tbl : List (List Nat)} (s : ∀ b o, ¬ X b → H b = some o → H' b = some o) (h : RowsS X H ras tbl) : RowsS X H' ras tbl := ⟨h.1, fun i ra row x y => (h.2 i ra row x y).mono s⟩
theorem RowsS.snoc {X : Addr → Prop} {H : Hp} {ras : List Addr} {tbl : List (List Nat)} {ra : Addr} {row : List Nat} (h : RowsS X H ras tbl) (g : GrpS X H ra row) : RowsS X H (ras ++ [ra]) (tbl ++ [row]) := by
  refine ⟨by rw [List.length_append, List.length_append, h.1]; rfl, fun i b r x y => ?_⟩
  by_cases hi : i < ras.length
  · rw [List.getElem?_append_left hi] at x
    rw [List.getElem?_append_left (by rw [← h.1]; exact hi)] at y
    exact h.2 i b r x y
  · rw [List.getElem?_append_right (by omega)] at x
    rw [List.getElem?_append_right (by rw [← h.1]; omega), ← h.1] at y
    have e : i - ras.length = 0 := by
      cases q : i - ras.length with
      | zero => rfl
      | succ k =>
        rw [q] at x
        simp at x
    rw [e] at x y
    cases x
    cases y
    exact g
section
variable {P : Program} {w : World} {K : PySem.W.Frag} {mg : Str → Option Value} {base : Heap}
/-- what moves(state) tells: a new list of new lists, each of one state -/
def MovesOk (H : Hp) (n0 : Nat) (R : Nat → List Nat) (spf : Sp) : Prop := ∀ (s : Nat) (H' : Hp) (Q' : VK), s < n0 → Same H H' → (∀ H'' b (gas : List Addr), Same H' H'' → H' b = none → H'' b = some (.lst (vr gas)) → gas.length = (R s).length → (∀ ga ∈ gas, H' ga = none) → (∀ (c : Nat) (ga : Addr) (t : Nat), gas[c]? = some ga → (R s)[c]? = some t → H'' ga = some (.lst (vi [t]))) → Q' (.ref b) H'') → spf [.int (s : Int)] H' Q' E0
def sp_explored (P : Program) (w : World) (K : PySem.W.Frag) (mg : Str → Option Value) (base : Heap) : Sp := fun vs H Q _ => ∃ (st f : Addr) (F : NF) (spf : Sp) (s0 n0 L : Nat) (R : Nat → List Nat), vs = [.ref st, .ref f] ∧ H st = some (.lst (vi [s0])) ∧ H f = some (FnO f F) ∧ Callable P w K mg base 4 f spf ∧ s0 < n0 ∧ n0 ≤ 1000000 ∧ L ≤ 5 ∧ (∀ s, s < n0 → (R s).length = L ∧ ∀ t ∈ R s, t < n0) ∧ MovesOk H n0 R spf ∧
  ∀ H' p ka ta ras ks tbl, Same H H' → H' p = some (.tup [.ref ka, .ref ta]) → H' ka = some (.lst (vi ks)) → R3At H' ta ras tbl → WI n0 L R s0 ks tbl → tbl.length = ks.length → (∀ r ∈ tbl, r.length = L) → Q (.ref p) H'
theorem ok_explored (T : TX K mg) : FnOk P w K mg base CX0 5 T.a_explored T.fd_explored ["starts", "moves"] (sp_explored P w K mg base) := by
  refine T.F_explored.ok sc_explored (fun vs H Q E h => ?_) (fun cdv A outer s H vs Q E hr h => ?_)
  · obtain ⟨st, f, F, spf, s0, n0, L, R, rfl, _⟩ := h
    rfl
  · obtain ⟨st, f, F, spf, s0, n0, L, R, rfl, est, hf, ca, h0, hbig, hL, hR, hsp, q⟩ := h
    refine ⟨_, (pss_cons (ps_set (i := 2) sc_explored.nd rfl (Or.inl rfl) (pe_callTy (call_listK K rfl) (by rfl) T.m_list (by decide +kernel) (pa_cons (pv 0) pa_nil)))
      (pss_cons (ps_set (i := 3) sc_explored.nd rfl (Or.inr rfl) (pe_dc (own := [("number", 9), ("key", 8)]) (tt := tYes) (by rfl) sc_explored.nd (pi_enumK K rfl (by rfl) T.m_enumerate (pa_cons (pv 0) pa_nil)) (blkOk_by (own := [("number", 9), ("key", 8)]) (N := N_explored) (by kernel_rfl)) (fun _ _ _ _ _ => (pg_tupK (n := 2) K rfl (by rfl) (pgs_cons (pg_name (i := 9) sc_explored.nd rfl (Or.inl rfl)) (pgs_cons (pg_name (i := 8) sc_explored.nd rfl (Or.inl rfl)) pgs_nil)))) (fun _ _ _ _ _ => pts_nil) (fun _ _ _ _ _ => (pv 8)) (fun _ _ _ _ _ => (pv 9))))
      (pss_cons (ps_set (i := 4) sc_explored.nd rfl (Or.inl rfl) (pe_lst pa_nil))
      (pss_cons (ps_while PassesOwn.never (pt_cmpR op_lt (pe_callB (call_lenK K rfl) (by rfl) T.m_len (by decide +kernel) (pa_cons (pv 4) pa_nil)) (pe_callB (call_lenK K rfl) (by rfl) T.m_len (by decide +kernel) (pa_cons (pv 2) pa_nil)) (nomark _))
        (pss_cons (ps_set (i := 5) sc_explored.nd rfl (Or.inl rfl) (pe_lst pa_nil))
          (pss_cons (ps_set (i := 6) sc_explored.nd rfl (Or.inl rfl) (pe_callV (k := 4) (i := 1) P w K mg base rfl rfl rfl rfl rfl (hr.mono (by decide)) rfl (by first | exact Or.inl rfl | exact Or.inr (Or.inl rfl) | exact Or.inr (Or.inr rfl)) (pa_cons (pe_ix (ix_listK K rfl) (pv 2) (pe_callB (call_lenK K rfl) (by rfl) T.m_len (by decide +kernel) (pa_cons (pv 4) pa_nil)) (fun _ _ => rfl)) pa_nil)))
          (pss_cons (ps_for PassesOwn.never rfl (pi_listK K rfl (pv 6)) (pg_name (i := 7) sc_explored.nd rfl (Or.inl rfl))
            (pss_cons (ps_for PassesOwn.never rfl (pi_listK K rfl (pv 7)) (pg_name (i := 8) sc_explored.nd rfl (Or.inl rfl))
                (pss_one (ps_if (pt_cmp (pc_dnotin (hu_of hr) (pv 8) (pv 3)))
                    (pss_cons (ps_dput (hu_of hr) (pv 3) (pv 8) (pe_callB (call_lenK K rfl) (by rfl) T.m_len (by decide +kernel) (pa_cons (pv 2) pa_nil)) rfl)
                      (pss_one (ps_expr (pe_bmK K rfl PySem.F.plainAttrs_list PySem.F.slot_list_append PySem.F.type_list_append mt_append (pv 2) (pa_cons (pv 8) pa_nil)))))
                    pss_nil)))
              (pss_one (ps_expr (pe_bmK K rfl PySem.F.plainAttrs_list PySem.F.slot_list_append PySem.F.type_list_append mt_append (pv 5) (pa_cons (pe_lc (own := [("key", 8)]) (g := gName 8) (tt := tYes) (by rfl) sc_explored.nd (pi_listK K rfl (pv 7)) (blkOk_by (own := [("key", 8)]) (N := N_explored) (by kernel_rfl)) (fun _ _ _ _ _ => (pg_name (i := 8) sc_explored.nd rfl (Or.inl rfl))) (fun _ _ _ _ _ => pts_nil) (fun _ _ _ _ _ => (pe_dget (hu_of hr) (pv 3) (pv 8) (fun _ _ => rfl)))) pa_nil))))))
          (pss_one (ps_expr (pe_bmK K rfl PySem.F.plainAttrs_list PySem.F.slot_list_append PySem.F.type_list_append mt_append (pv 4) (pa_cons (pv 5) pa_nil))))))))
      (pss_one (ps_ret (pe_tup (pa_cons (pv 2) (pa_cons (pv 4) pa_nil))))))))), ?_⟩
    have sl : ∀ m, m ≤ 1000000 → m < sizeLine := fun m hm => Nat.lt_of_le_of_lt hm (by decide)
    -- keys, numbers, rows
    refine ⟨.ref st, rfl, st, _, rfl, .inl (.inl (.inl est)), fun ka nka => ?_⟩
    have s1 := same_new (o := .lst (vi [s0])) nka
    have ek : (upd H ka (.lst (vi [s0]))) ka = some (.lst (vi [s0])) := upd_same
    refine ⟨.ref st, rfl, st, _, rfl, .inl (.inl (s1 _ _ est)), fun nm nnm => ?_⟩
    have s2 := same_new (o := .dK []) nnm
    have d1 : ka ≠ nm := ne_of_none ek nnm
    have fnm : H nm = none := s1.free nnm
    refine dc_it (walk_enum (K := K) (a := st) (xs := vi [s0])) (fun i G => Same H G ∧ G ka = some (.lst (vi [s0])) ∧ G nm = some (.dK (mk ([s0].take i)))) ⟨s1.trans s2, s2 _ _ ek, upd_same⟩ (fun i G _ hW => .inl (.inl (hW.1 _ _ est))) (fun i x G G' hi hW hY => ?_) (fun G hW => ?_)
    · obtain ⟨sG, ekG, en⟩ := hW
      obtain ⟨T1, v1, v2, rfl, nT1, rfl, e1, e2⟩ := hY
      cases e1
      have hi : i < 1 := hi
      obtain rfl : i = 0 := by omega
      have e2 : some (V.int (s0 : Int)) = some v2 := e2
      cases e2
      have sT := same_new (o := .tup [.int ((0 : Nat) : Int), .int (s0 : Int)]) nT1
      refine ⟨T1, [.int ((0 : Nat) : Int), .int (s0 : Int)], rfl, .inl (.inl upd_same), rfl, .int ((0 : Nat) : Int), [.int (s0 : Int)], rfl, .int (s0 : Int), [], rfl, rfl, ?_⟩
      refine ⟨rfl, lcyes ⟨.int (s0 : Int), rfl, .int ((0 : Nat) : Int), rfl, _, Sum.inl (s0 : Int), rfl, sT _ _ en, by show 0 < sizeLine; decide, ?_, ?_, ?_⟩⟩
      · intro b o eb
        rw [upd_ne (ne_of_none eb fnm)]
        exact sT _ _ (sG _ _ eb)
      · rw [upd_ne d1]
        exact sT _ _ ekG
      · rw [upd_same]
        rfl
    obtain ⟨sm0, ek0, en0⟩ := hW
    have en0 : G nm = some (.dK (mk [s0])) := en0
    refine ⟨by show 0 ≤ sizeLine; decide, fun ta nta => ?_⟩
    have d2 : nm ≠ ta := ne_of_none en0 nta
    have d3 : ka ≠ ta := ne_of_none ek0 nta
    have fka : H ka = none := nka
    have fta : H ta = none := sm0.free nta
    -- while
    refine ⟨fun m σ H' => ∃ (ks : List Nat) (tbl : List (List Nat)) (ras : List Addr) (y5 y6 y7 y8 : Option V), m + tbl.length = n0 + 1 ∧ σ = [some (.ref st), some (.ref f), some (.ref ka), some (.ref nm), some (.ref ta), y5, y6, y7, y8, none] ∧ Same H H' ∧ H' nm = some (.dK (mk ks)) ∧ H' ka = some (.lst (vi ks)) ∧ H' ta = some (.lst (vr ras)) ∧ RowsS (fun b => b = ta ∨ b = ka ∨ b = nm) H' ras tbl ∧ WI n0 L R s0 ks tbl ∧ (∀ r ∈ tbl, r.length = L),
      ⟨n0 + 1, [s0], [], [], none, none, none, none, rfl, rfl, sm0.trans (same_new nta), same_new nta _ _ en0, same_new nta _ _ ek0, upd_same, ⟨rfl, fun i b w x => by simp at x⟩, WI.start h0, fun _ h => nomatch h⟩, fun m σ H1 hW => ?_⟩
    obtain ⟨ks, tbl, ras, y5, y6, y7, y8, hm, rfl, sm1, en, ek1, et1, rw1, wi, full⟩ := hW
    have hmany := wi.many
    have hrl : ras.length = tbl.length := rw1.1
    refine ⟨.ref ta, rfl, ta, _, rfl, .inl (.inl (.inl et1)), .ref ka, rfl, ka, _, rfl, .inl (.inl (.inl ek1)), _, _, rfl, rfl, _, rfl, ite2 (fun z => ?_) (fun z => ?_)⟩
    · have hlt : tbl.length < ks.length := by
        have := of_decide_eq_true z
        rw [List.length_map, List.length_map, hrl] at this
        omega
      refine ⟨fun σ' H' => ∃ (ks : List Nat) (row : List Nat) (ras' : List Addr) (y5 y6 y7 y8 : Option V), σ' = [some (.ref st), some (.ref f), some (.ref ka), some (.ref nm), some (.ref ta), y5, y6, y7, y8, none] ∧ Same H H' ∧ H' nm = some (.dK (mk ks)) ∧ H' ka = some (.lst (vi ks)) ∧ H' ta = some (.lst (vr ras')) ∧ RowsS (fun b => b = ta ∨ b = ka ∨ b = nm) H' ras' (tbl ++ [row]) ∧ WI n0 L R s0 ks (tbl ++ [row]) ∧ row.length = L, fun σ' H' hN => ?_, ?_⟩
      · obtain ⟨ks', row, ras', y5, y6, y7, y8, r1, r2, r3, r4, r5, r6, r7, r8⟩ := hN
        have := r7.le
        have hm' := r7.many
        rw [List.length_append] at this
        have this : tbl.length + 1 ≤ ks'.length := this
        refine ⟨m - 1, by omega, ks', tbl ++ [row], ras', y5, y6, y7, y8, ?_, r1, r2, r3, r4, r5, r6, r7, mem_snoc full r8⟩
        rw [List.length_append]
        show m - 1 + (tbl.length + 1) = n0 + 1
        omega
      -- row = []
      refine ⟨by show 0 ≤ sizeLine; decide, fun ra nra => ?_⟩
      have s12 : Same H1 (upd H1 ra (.lst [])) := same_new nra
      have sm2 : Same H (upd H1 ra (.lst [])) := sm1.trans s12
      have era : (upd H1 ra (.lst [])) ra = some (.lst (vr [])) := upd_same
      have fra : H ra = none := sm1.free nra
      have ra1 : nm ≠ ra := ne_of_none en nra
      have ra2 : ka ≠ ra := ne_of_none ek1 nra
      have ra3 : ta ≠ ra := ne_of_none et1 nra
      have en2 := s12 _ _ en
      have ek2 := s12 _ _ ek1
      have et2 := s12 _ _ et1
      generalize upd H1 ra (.lst []) = H2 at sm2 s12 era en2 ek2 et2
      have hks : ks[tbl.length]? = some ks[tbl.length] := List.getElem?_eq_getElem hlt
      generalize ks[tbl.length] = sx at hks
      have hsx : sx < n0 := wi.lt sx (List.mem_of_getElem? hks)
      obtain ⟨hRl, hRt⟩ := hR sx hsx
      have hvk : (vi ks)[ras.length]? = some (.int (sx : Int)) := by
        rw [List.getElem?_map, hrl, hks]
        rfl
      -- behind = moves(keys[len(rows)])
      refine ⟨f, F, spf, rfl, sm2 _ _ hf, ca, .ref ka, rfl, .ref ta, rfl, ta, _, rfl, .inl (.inl (.inl et2)), ka, _, _, .int (sx : Int), rfl, rfl, .inl (.inl ek2), ?_, sm2 _ _ hf, hsp sx H2 _ hsx sm2 fun H3 pb bgs s3 npb epb lbg nbg cbg => ?_⟩
      · rw [List.length_map]
        exact atI_nat hvk
      have wi0 := wi.open_ hlt
      have hbl : bgs.length = L := by rw [lbg, hRl]
      have pb1 : nm ≠ pb := ne_of_none en2 npb
      have pb2 : ka ≠ pb := ne_of_none ek2 npb
      have pb3 : ra ≠ pb := ne_of_none era npb
      -- for group in behind
      refine ⟨.ref pb, rfl, pb, rfl, ⟨_, .inl (.inl epb)⟩, ?_⟩
      refine for_it (walk_list (K := K) (a := pb) (xs := vr bgs)) (fun c σ H' => (∃ ks cur gas, (∀ b o, b ≠ nm → b ≠ ka → b ≠ ra → H3 b = some o → H' b = some o) ∧ Same H H' ∧ H' nm = some (.dK (mk ks)) ∧ H' ka = some (.lst (vi ks)) ∧ H' ra = some (.lst (vr gas)) ∧ gas.length = c ∧ cur.length = c ∧ (∀ (i : Nat) (ga : Addr) (v : Nat), gas[i]? = some ga → cur[i]? = some v → H' ga = some (.lst (vi [v]))) ∧ (∀ ga ∈ gas, ga ≠ ra ∧ ga ≠ ta ∧ ga ≠ ka ∧ ga ≠ nm) ∧ ks[tbl.length]? = some sx ∧ WI n0 L R s0 ks (tbl ++ [cur])) ∧ ∃ y7 y8, σ = [some (.ref st), some (.ref f), some (.ref ka), some (.ref nm), some (.ref ta), some (.ref ra), some (.ref pb), y7, y8, none]) ⟨⟨ks, [], [], fun b o _ _ _ e => e, sm2.trans s3, s3 _ _ en2, s3 _ _ ek2, s3 _ _ era, rfl, rfl, (fun i ga v x => by simp at x), (fun _ h => nomatch h), hks, wi0⟩, y7, y8, rfl⟩ (fun c σ H' _ hW => ?_) (fun c x σ H4 H4' hc hW hY => ?_) (fun σ H4 hW => ?_)
      · obtain ⟨⟨_, _, _, fr, _⟩, _⟩ := hW
        exact .inl (.inl (fr _ _ pb1.symm pb2.symm pb3.symm epb))
      · obtain ⟨⟨ks, cur, gas, fr4, sm4, en4, ek4, er4, lg4, lc, cg4, dg4, hk4, wi4⟩, y7, y8, rfl⟩ := hW
        obtain ⟨rfl, hx⟩ := hY
        rw [List.length_map] at hc
        rw [List.getElem?_map, List.getElem?_eq_getElem hc] at hx
        cases hx
        have ht := List.getElem?_eq_getElem (l := R sx) (i := c) (by omega)
        generalize (R sx)[c]'(by omega) = t at ht
        have htn := hRt t (List.mem_of_getElem? ht)
        have hm4 := wi4.many
        have eg := cbg c _ t (List.getElem?_eq_getElem hc) ht
        have ng := nbg _ (List.getElem_mem hc)
        generalize bgs[c] = gb at eg ng
        have g1 : nm ≠ gb := ne_of_none en2 ng
        have g2 : ka ≠ gb := ne_of_none ek2 ng
        have g3 : ra ≠ gb := ne_of_none era ng
        have eg4 := fr4 _ _ g1.symm g2.symm g3.symm eg
        -- for key in group
        refine ⟨.ref gb, rfl, gb, rfl, ⟨_, .inl (.inl eg4)⟩, ?_⟩
        refine for_it (walk_list (K := K) (a := gb) (xs := vi [t])) (fun i σ H' => ∃ ks' y8, (i = 0 → ks' = ks) ∧ (i = 1 → (ks' = ks ∨ (ks' = ks ++ [t] ∧ t ∉ ks)) ∧ t ∈ ks' ∧ ks'.Nodup) ∧ σ = [some (.ref st), some (.ref f), some (.ref ka), some (.ref nm), some (.ref ta), some (.ref ra), some (.ref pb), some (.ref gb), y8, none] ∧ H' nm = some (.dK (mk ks')) ∧ H' ka = some (.lst (vi ks')) ∧ (∀ b, b ≠ nm → b ≠ ka → H' b = H4' b)) ⟨ks, y8, (fun _ => rfl), (fun h => nomatch h), rfl, en4, ek4, fun _ _ _ => rfl⟩ (fun i σ H' _ hW => ?_) (fun i x σ H5 H5' hi hW hY => ?_) (fun σ H5 hW => ?_)
        · obtain ⟨_, _, _, _, _, _, _, z⟩ := hW
          exact .inl (.inl (by rw [z gb g1.symm g2.symm]; exact eg4))
        · obtain ⟨ks', y8, k0, _, rfl, en5, ek5, rest⟩ := hW
          obtain ⟨rfl, hx⟩ := hY
          have hi : i < 1 := hi
          obtain rfl : i = 0 := by omega
          obtain rfl := k0 rfl
          have hx : some (V.int (t : Int)) = some x := hx
          cases hx
          refine ⟨.int (t : Int), rfl, .ref nm, rfl, nm, _, rfl, DGet.k (k := Sum.inl (t : Int)) en5, _, rfl, ?_⟩
          rw [valV_mk]
          by_cases hin : t ∈ ks'
          · rw [if_pos hin]
            refine iteF ?_
            exact ⟨ks', _, (fun h => nomatch h), (fun _ => ⟨.inl rfl, hin, wi4.nd⟩), rfl, en5, ek5, rest⟩
          · rw [if_neg hin]
            refine iteT ?_
            have ep : putK (mk ks') (Sum.inl (t : Int) : Key) (V.int ((vi ks').length : Int)) = mk (ks' ++ [t]) := by
              unfold putK
              rw [valV_any, valV_mk, if_neg hin, if_neg (by decide), mk_snoc, List.length_map]
            refine ⟨.ref ka, rfl, ka, _, rfl, .inl (.inl (.inl ek5)), .ref nm, rfl, .int (t : Int), rfl, nm, _, rfl, DPut.k (k := Sum.inl (t : Int)) en5 (by rw [mk_len]; exact sl _ (by omega)), ?_⟩
            rw [ep]
            have ek6 : (upd H5' nm (.dK (mk (ks' ++ [t])))) ka = some (.lst (vi ks')) := by
              rw [upd_ne d1]
              exact ek5
            refine ⟨.ref ka, rfl, .inl ⟨rfl, _, .inl (.inl ek6)⟩, .int (t : Int), rfl, ka, _, _, rfl, rfl, ek6, by rw [List.length_map]; exact sl _ (by omega), ks' ++ [t], _, (fun h => nomatch h), (fun _ => ⟨.inr ⟨rfl, hin⟩, List.mem_append_right _ (List.mem_singleton.mpr rfl), ?_⟩), rfl, ?_, ?_, ?_⟩
            · refine List.nodup_append.mpr ⟨wi4.nd, by simp, fun x hx y hy e => ?_⟩
              rw [List.mem_singleton.mp hy] at e
              exact hin (e ▸ hx)
            · rw [upd_ne d1.symm, upd_same]
            · rw [upd_same, vi_snoc]
            · intro b h1 h2
              rw [upd_ne h2, upd_ne h1]
              exact rest b h1 h2
        · obtain ⟨ks', y8, _, k1, rfl, en5, ek5, rest⟩ := hW
          obtain ⟨hk', htin, nd'⟩ := k1 rfl
          have er5 : H5 ra = some (.lst (vr gas)) := by
            rw [rest ra ra1.symm ra2.symm]
            exact er4
          have eg5 : H5 gb = some (.lst (vi [t])) := by
            rw [rest gb g1.symm g2.symm]
            exact eg4
          have hvt : ks'[ks'.idxOf t]? = some t := by
            have := List.idxOf_lt_length_iff.mpr htin
            rw [List.getElem?_eq_getElem this, List.getElem_idxOf]
          have hk5 : ks'[tbl.length]? = some sx := by
            rcases hk' with rfl | ⟨rfl, _⟩
            · exact hk4
            · rw [List.getElem?_append_left (List.getElem?_eq_some_iff.mp hk4).1]
              exact hk4
          have sm5 : Same H H5 := fun b o e => by
            rw [rest b (ne_of_none e fnm) (ne_of_none e fka)]
            exact sm4 _ _ e
          -- row.append([numbers[key] for key in group])
          refine ⟨.ref ra, rfl, .inl ⟨rfl, _, .inl (.inl er5)⟩, .ref gb, rfl, gb, rfl, ⟨_, .inl (.inl eg5)⟩, fun D nD => ?_⟩
          have sD := same_new (o := .lst []) nD
          refine lc_it (walk_list (K := K) (a := gb) (xs := vi [t])) (fun i H' => H' = upd H5 D (.lst (vi ([ks'.idxOf t].take i)))) rfl (fun i H' _ hW => by rw [hW]; exact .inl (.inl (same_new nD _ _ eg5))) (fun i x H6 H6' hi hW hY => ?_) (fun H6 hW => ?_)
          · subst hW
            obtain ⟨rfl, hx⟩ := hY
            have hi : i < 1 := hi
            obtain rfl : i = 0 := by omega
            have hx : some (V.int (t : Int)) = some x := hx
            cases hx
            refine ⟨rfl, lcyes ⟨.ref nm, rfl, .int (t : Int), rfl, nm, .int (ks'.idxOf t : Nat), rfl, ?_, _, upd_same, by show 0 < sizeLine; decide, ?_⟩⟩
            · have := DGet.k (k := Sum.inl (t : Int)) (same_new (o := .lst (vi [])) nD _ _ en5)
              rw [valV_mk, if_pos htin] at this
              exact this
            · rw [upd_upd]
              rfl
          · have hW : H6 = upd H5 D (.lst (vi [ks'.idxOf t])) := hW
            subst hW
            have s6 := same_new (o := .lst (vi [ks'.idxOf t])) nD
            have er6 := s6 _ _ er5
            have rD : ra ≠ D := ne_of_none er5 nD
            have dg6 : ∀ ga ∈ gas, ga ≠ D := fun ga hga => by
              obtain ⟨i, hi⟩ := List.mem_iff_getElem?.mp hga
              have hil := (List.getElem?_eq_some_iff.mp hi).1
              have e := cg4 i ga _ hi (List.getElem?_eq_getElem (show i < cur.length by omega))
              obtain ⟨_, _, h3, h4⟩ := dg4 ga hga
              refine ne_of_none (o := .lst (vi [cur[i]'(by omega)])) ?_ nD
              rw [rest ga h4 h3]
              exact e
            refine ⟨ra, _, _, rfl, rfl, er6, by rw [List.length_map]; exact sl _ (by omega), ⟨ks', cur ++ [ks'.idxOf t], gas ++ [D], ?_, ?_, ?_, ?_, ?_, by rw [List.length_append, lg4]; rfl, by rw [List.length_append, lc]; rfl, ?_, mem_snoc dg4 ⟨rD.symm, (ne_of_none (show H5 ta = some (.lst (vr ras)) by rw [rest ta d2.symm d3.symm, fr4 _ _ d2.symm d3.symm ra3 (s3 _ _ et2)]) nD).symm, (ne_of_none ek5 nD).symm, (ne_of_none en5 nD).symm⟩, hk5, ?_⟩, _, _, rfl⟩
            · intro b o h1 h2 h3 e
              rw [upd_ne h3]
              refine s6 _ _ ?_
              rw [rest b h1 h2]
              exact fr4 b o h1 h2 h3 e
            · intro b o e
              rw [upd_ne (ne_of_none e fra)]
              exact s6 _ _ (sm5 _ _ e)
            · rw [upd_ne ra1]
              exact s6 _ _ en5
            · rw [upd_ne ra2]
              exact s6 _ _ ek5
            · rw [upd_same, vr_snoc]
            · intro i ga v x y
              by_cases hi : i < gas.length
              · rw [List.getElem?_append_left hi] at x
                rw [List.getElem?_append_left (by omega)] at y
                have e := cg4 i ga v x y
                obtain ⟨h1, _, h3, h4⟩ := dg4 ga (List.mem_of_getElem? x)
                rw [upd_ne h1]
                refine s6 _ _ ?_
                rw [rest ga h4 h3]
                exact e
              · rw [List.getElem?_append_right (by omega)] at x
                rw [List.getElem?_append_right (by omega)] at y
                have e0 : i - gas.length = 0 := by
                  cases q : i - gas.length with
                  | zero => rfl
                  | succ k =>
                    rw [q] at x
                    simp at x
                rw [show i - cur.length = 0 by omega] at y
                rw [e0] at x
                cases x
                cases y
                rw [upd_ne rD.symm, upd_same]
            · exact wi4.put hk4 (by rw [lc]; exact ht) htn (by omega) hvt hk'
      · obtain ⟨⟨ks, cur, gas, fr4, sm4, en4, ek4, er4, lg4, lc, cg4, dg4, hk4, wi4⟩, y7, y8, rfl⟩ := hW
        rw [List.length_map, hbl] at lc lg4
        have et4 := fr4 _ _ d2.symm d3.symm ra3 (s3 _ _ et2)
        -- rows.append(row)
        have up : ∀ b o, ¬ (b = ta ∨ b = ka ∨ b = nm) → H1 b = some o → (upd H4 ta (.lst (vr (ras ++ [ra])))) b = some o := fun b o hb e => by
          rw [upd_ne fun z => hb (.inl z)]
          exact fr4 b o (fun z => hb (.inr (.inr z))) (fun z => hb (.inr (.inl z))) (ne_of_none e nra) (s3 _ _ (s12 _ _ e))
        refine ⟨.ref ta, rfl, .inl ⟨rfl, _, .inl (.inl et4)⟩, .ref ra, rfl, ta, _, _, rfl, rfl, et4, by rw [List.length_map, hrl]; exact sl _ (by omega), ?_⟩
        rw [vr_snoc]
        refine ⟨ks, cur, ras ++ [ra], _, _, _, _, rfl, ?_, ?_, ?_, upd_same, (rw1.mono up).snoc ?_, wi4, lc⟩
        · intro b o e
          rw [upd_ne (ne_of_none e fta)]
          exact sm4 _ _ e
        · rw [upd_ne d2]
          exact en4
        · rw [upd_ne d3]
          exact ek4
        · refine ⟨gas, fun z => ?_, fun ga hga z => ?_, ?_, by omega, fun i ga v x y => ?_⟩
          · rcases z with z | z | z
            · exact ra3 z.symm
            · exact ra2 z.symm
            · exact ra1 z.symm
          · obtain ⟨_, h2, h3, h4⟩ := dg4 ga hga
            rcases z with z | z | z
            · exact h2 z
            · exact h3 z
            · exact h4 z
          · rw [upd_ne ra3.symm]
            exact er4
          · rw [upd_ne (dg4 ga (List.mem_of_getElem? x)).2.1]
            exact cg4 i ga v x y
    · have hle := wi.le
      have hlen : tbl.length = ks.length := by
        have : ¬ (((vr ras).length : Nat) : Int) < ((vi ks).length : Nat) := fun y => z (decide_eq_true y)
        rw [List.length_map, List.length_map, hrl] at this
        omega
      refine ⟨.ref ka, rfl, .ref ta, rfl, by show 2 ≤ sizeLine; decide, fun p np => ?_⟩
      have sp := same_new (o := .tup [.ref ka, .ref ta]) np
      exact q _ p ka ta ras ks tbl (sm1.trans sp) upd_same (sp _ _ ek1) ⟨sp _ _ et1, hrl, fun i ra row x y => (rw1.2 i ra row x y).plain.same sp⟩ wi hlen full
end
end LH

namespace LH
open PySem PySem.Spec PyProof.Rows L2 NdefX LamX
/-- a stop can be come to -/
inductive Lead (tbl : List (List Nat)) (bs : List Bool) : Nat → Prop
  | stop {j : Nat} : bs[j]? = some true → Lead tbl bs j
  | step {j c k : Nat} : AtT tbl j c k → Lead tbl bs k → Lead tbl bs j
/-- for each number a list of its own -/
def BackAt (H : Hp) (D : Addr) (bas : List Addr) (B : List (List Nat)) : Prop := H D = some (.lst (vr bas)) ∧ bas.length = B.length ∧ bas.Nodup ∧ D ∉ bas ∧ ∀ (k : Nat) (b : Addr) (xs : List Nat), bas[k]? = some b → B[k]? = some xs → H b = some (.lst (vi xs))
theorem BackAt.mono {H H' : Hp} {D : Addr} {bas : List Addr} {B : List (List Nat)} (s : ∀ b o, H b = some o → b = D ∨ b ∈ bas → H' b = some o) (h : BackAt H D bas B) : BackAt H' D bas B :=
  ⟨s _ _ h.1 (.inl rfl), h.2.1, h.2.2.1, h.2.2.2.1, fun k b xs x y => s _ _ (h.2.2.2.2 k b xs x y) (.inr (List.mem_of_getElem? x))⟩
theorem BackAt.put {H : Hp} {D b : Addr} {bas : List Addr} {B : List (List Nat)} {k : Nat} {xs ys : List Nat} (h : BackAt H D bas B) (hb : bas[k]? = some b) (_ : B[k]? = some xs) : BackAt (upd H b (.lst (vi ys))) D bas (B.set k ys) := by
  obtain ⟨h1, h2, h3, h4, h5⟩ := h
  have hbm := List.mem_of_getElem? hb
  have nDb : D ≠ b := fun e => h4 (by rw [e]; exact hbm)
  refine ⟨by rw [upd_ne nDb]; exact h1, by rw [List.length_set]; exact h2, h3, h4, fun i c zs x y => ?_⟩
  have hk := (List.getElem?_eq_some_iff.mp hb).1
  by_cases e : k = i
  · subst e
    rw [List.getElem?_set_self (by omega)] at y
    cases y
    rw [hb] at x
    cases x
    exact upd_same
  · rw [List.getElem?_set_ne e] at y
    have ne : c ≠ b := fun z => e (by
      have h1 := (List.getElem?_eq_some_iff.mp hb)
      have h2 := (List.getElem?_eq_some_iff.mp x)
      exact (List.getElem_inj h3).mp (by rw [h1.2, h2.2, z]))
    rw [upd_ne ne]
    exact h5 i c zs x y
abbrev vb (bs : List Bool) : List V := bs.map V.bl
theorem vb_at {bs : List Bool} {i : Nat} {x : V} (h : (vb bs)[i]? = some x) : ∃ b, bs[i]? = some b ∧ x = .bl b := by
  rw [List.getElem?_map] at h
  obtain ⟨b, e, z⟩ := Option.map_eq_some_iff.mp h
  exact ⟨b, e, z.symm⟩
theorem vb_get {bs : List Bool} {i : Nat} {b : Bool} (h : bs[i]? = some b) : (vb bs)[i]? = some (.bl b) := by
  rw [List.getElem?_map, h]
  rfl
theorem vi_get {ns : List Nat} {i n : Nat} (h : ns[i]? = some n) : (vi ns)[i]? = some (.int (n : Int)) := by
  rw [List.getElem?_map, h]
  rfl
theorem vr_get {as : List Addr} {i : Nat} {a : Addr} (h : as[i]? = some a) : (vr as)[i]? = some (.ref a) := by
  rw [List.getElem?_map, h]
  rfl
theorem vr_at {as : List Addr} {i : Nat} {x : V} (h : (vr as)[i]? = some x) : ∃ a, as[i]? = some a ∧ x = .ref a := by
  rw [List.getElem?_map] at h
  obtain ⟨b, e, z⟩ := Option.map_eq_some_iff.mp h
  exact ⟨b, e, z.symm⟩
theorem vi_dropLast (ns : List Nat) : (vi ns).dropLast = vi ns.dropLast := (List.map_dropLast ..).symm
theorem vb_set (ls : List Bool) (j : Nat) : (vb ls).set j (.bl true) = vb (ls.set j true) := (List.map_set ..).symm
theorem count_put {ls : List Bool} {j : Nat} (h : ls[j]? = some false) : (ls.set j true).count false + 1 = ls.count false := by
  induction ls generalizing j with
  | nil => simp at h
  | cons b r ih =>
    cases j with
    | zero =>
      have : b = false := by simpa using h
      subst this
      simp
    | succ j =>
      have := ih (j := j) (by simpa using h)
      rw [List.set_cons_succ, List.count_cons, List.count_cons]
      omega
theorem set_true {ls : List Bool} {j k : Nat} (h : ls[k]? = some true) : (ls.set j true)[k]? = some true := by
  by_cases e : j = k
  · subst e
    rw [List.getElem?_set_self (List.getElem?_eq_some_iff.mp h).1]
  · rw [List.getElem?_set_ne e]
    exact h
theorem set_back {ls : List Bool} {j k : Nat} (h : (ls.set j true)[k]? = some true) : k = j ∨ ls[k]? = some true := by
  by_cases e : j = k
  · exact .inl e.symm
  · rw [List.getElem?_set_ne e] at h
    exact .inr h
section
variable {P : Program} {w : World} {K : PySem.W.Frag} {mg : Str → Option Value} {base : Heap}
def sp_leading : Sp := fun vs H Q _ => ∃ (ta ea : Addr) (ras : List Addr) (tbl : List (List Nat)) (bs : List Bool), vs = [.ref ta, .ref ea] ∧ R3At H ta ras tbl ∧ H ea = some (.lst (vb bs)) ∧ bs.length = tbl.length ∧ tbl.length ≤ 100000 ∧ (∀ r ∈ tbl, r.length ≤ 5 ∧ ∀ v ∈ r, v < tbl.length) ∧
  ∀ H' p (ls : List Bool), Same H H' → H p = none → H' p = some (.lst (vb ls)) → ls.length = tbl.length → (∀ j, ls[j]? = some true ↔ Lead tbl bs j) → Q (.ref p) H'
theorem ok_leading (T : TX K mg) : FnOk P w K mg base CX0 1 T.a_leading T.fd_leading ["rows", "ended"] sp_leading := by
  refine T.F_leading.ok sc_leading (fun vs H Q E h => ?_) (fun cdv A outer s H vs Q E hr h => ?_)
  · obtain ⟨ta, ea, ras, tbl, bs, rfl, _⟩ := h
    rfl
  · obtain ⟨ta, ea, ras, tbl, bs, rfl, r3, he, hbl, hn, hrow, q⟩ := h
    refine ⟨_, (pss_cons (ps_setLc (i := 2) (own := [("row", 4)]) (g := gName 4) (tt := tYes) (by rfl) sc_leading.nd rfl rfl (sw_true rfl rfl rfl (by decide +kernel)) (pi_listK K rfl (pv 0)) (blkOk_by (own := [("row", 4)]) (N := N_leading) (by kernel_rfl)) (fun _ _ _ _ _ => (pg_name (i := 4) sc_leading.nd rfl (Or.inl rfl))) (fun _ _ _ _ _ => pts_nil) (fun _ _ _ _ _ => (pe_lst pa_nil)))
      (pss_cons (ps_for PassesOwn.never rfl (pi_enumK K rfl (by rfl) T.m_enumerate (pa_cons (pv 0) pa_nil)) (pg_tupK (n := 2) K rfl (by rfl) (pgs_cons (pg_name (i := 3) sc_leading.nd rfl (Or.inl rfl)) (pgs_cons (pg_name (i := 4) sc_leading.nd rfl (Or.inl rfl)) pgs_nil)))
        (pss_one (ps_for PassesOwn.never rfl (pi_listK K rfl (pv 4)) (pg_name (i := 5) sc_leading.nd rfl (Or.inl rfl))
            (pss_one (ps_for PassesOwn.never rfl (pi_listK K rfl (pv 5)) (pg_name (i := 6) sc_leading.nd rfl (Or.inl rfl))
                (pss_one (ps_expr (pe_bmK K rfl PySem.F.plainAttrs_list PySem.F.slot_list_append PySem.F.type_list_append mt_append (pe_ix (ix_listK K rfl) (pv 2) (pv 6) (fun _ _ => rfl)) (pa_cons (pv 3) pa_nil)))))))))
      (pss_cons (ps_set (i := 7) sc_leading.nd rfl (Or.inl rfl) (pe_callTy (call_listK K rfl) (by rfl) T.m_list (by decide +kernel) (pa_cons (pv 1) pa_nil)))
      (pss_cons (ps_setLc (i := 8) (own := [("number", 3), ("stop", 9)]) (by rfl) sc_leading.nd rfl rfl (sw_true rfl rfl rfl (by decide +kernel)) (pi_enumK K rfl (by rfl) T.m_enumerate (pa_cons (pv 1) pa_nil)) (blkOk_by (own := [("number", 3), ("stop", 9)]) (N := N_leading) (by kernel_rfl)) (fun _ _ _ _ _ => (pg_tupK (n := 2) K rfl (by rfl) (pgs_cons (pg_name (i := 3) sc_leading.nd rfl (Or.inl rfl)) (pgs_cons (pg_name (i := 9) sc_leading.nd rfl (by first | exact Or.inl rfl | exact Or.inr rfl)) pgs_nil)))) (fun _ _ _ _ _ => (pts_one (pt_val (pv 9)))) (fun _ _ _ _ _ => (pv 3)))
      (pss_cons (ps_while PassesOwn.never (pt_cmpR op_gt (pe_callB (call_lenK K rfl) (by rfl) T.m_len (by decide +kernel) (pa_cons (pv 8) pa_nil)) pe_int (nomark _))
        (pss_cons (ps_set (i := 6) sc_leading.nd rfl (Or.inl rfl) (pe_bm0K K rfl PySem.F.plainAttrs_list PySem.F.slot_list_pop PySem.F.type_list_pop mt_pop (pv 8)))
          (pss_one (ps_for PassesOwn.never rfl (pi_listK K rfl (pe_ix (ix_listK K rfl) (pv 2) (pv 6) (fun _ _ => rfl))) (pg_name (i := 3) sc_leading.nd rfl (Or.inl rfl))
            (pss_one (ps_if (pt_not (pt_val (pe_ix (ix_listK K rfl) (pv 7) (pv 3) (fun _ _ => rfl))))
                (pss_cons (ps_asg pe_bl (pg_sub (pv 7) (pv 3) set_list))
                  (pss_one (ps_expr (pe_bmK K rfl PySem.F.plainAttrs_list PySem.F.slot_list_append PySem.F.type_list_append mt_append (pv 8) (pa_cons (pv 3) pa_nil)))))
                pss_nil))))))
      (pss_one (ps_ret (pv 7)))))))), ?_⟩
    have sl : ∀ m, m ≤ 1000000 → m < sizeLine := fun m hm => Nat.lt_of_le_of_lt hm (by decide)
    have hrl : ras.length = tbl.length := r3.2.1
    -- back
    refine ⟨.ref ta, rfl, ta, rfl, ⟨_, .inl (.inl r3.1)⟩, fun D nD => ?_⟩
    refine lc_it (walk_list (K := K) (a := ta) (xs := vr ras)) (fun i G => Same H G ∧ ∃ bas : List Addr, G D = some (.lst (vr bas)) ∧ bas.length = i ∧ bas.Nodup ∧ ∀ b ∈ bas, H b = none ∧ b ≠ D ∧ G b = some (.lst (vi []))) ⟨same_new nD, [], upd_same, rfl, List.nodup_nil, fun _ h => nomatch h⟩ (fun i G _ hW => .inl (.inl (hW.1 _ _ r3.1))) (fun i x G G' hi hW hY => ?_) (fun G hW => ?_)
    · obtain ⟨sG, bas, eD, lb, nb, fb⟩ := hW
      obtain ⟨rfl, _⟩ := hY
      rw [List.length_map] at hi
      refine ⟨rfl, lcyes ⟨by show 0 ≤ sizeLine; decide, fun p np => ?_⟩⟩
      have pD : D ≠ p := ne_of_none eD np
      have sp := same_new (o := .lst []) np
      have fp : H p = none := sG.free np
      refine ⟨vr bas, sp _ _ eD, by rw [List.length_map]; exact sl _ (by omega), ?_, bas ++ [p], by rw [upd_same, vr_snoc], by rw [List.length_append, lb]; rfl, ?_, fun b hb => ?_⟩
      · intro b o e
        rw [upd_ne (ne_of_none e nD)]
        exact sp _ _ (sG _ _ e)
      · refine List.nodup_append.mpr ⟨nb, by simp, fun a ha c hc e => ?_⟩
        rw [List.mem_singleton.mp hc] at e
        exact ne_of_none (fb a ha).2.2 np e
      · rcases List.mem_append.mp hb with h | h
        · obtain ⟨a1, a2, a3⟩ := fb b h
          exact ⟨a1, a2, by rw [upd_ne a2]; exact sp _ _ a3⟩
        · rw [List.mem_singleton.mp h]
          exact ⟨fp, pD.symm, by rw [upd_ne pD.symm, upd_same]; rfl⟩
    obtain ⟨sm1, bas, eD1, lb, nb, fb⟩ := hW
    rw [List.length_map, hrl] at lb
    have DB : D ∉ bas := fun h => (fb D h).2.1 rfl
    have fD : H D = none := nD
    have up : ∀ {G : Hp} {b : Addr} {o : HO}, b ∈ bas → Same H G → Same H (upd G b o) := fun hb sG c x e => by
      rw [upd_ne (ne_of_none e (fb _ hb).1)]
      exact sG _ _ e
    -- for number, row in enumerate(rows)
    refine ⟨.ref ta, rfl, ta, _, rfl, .inl (.inl (sm1 _ _ r3.1)), ?_⟩
    refine for_it (walk_enum (K := K) (a := ta) (xs := vr ras)) (fun i σ G => Same H G ∧ (∃ B : List (List Nat), BackAt G D bas B ∧ (∀ xs ∈ B, xs.length ≤ 5 * i) ∧ ∀ (k j : Nat) (xs : List Nat), B[k]? = some xs → (j ∈ xs ↔ j < i ∧ ∃ c, AtT tbl j c k)) ∧ ∃ y3 y4 y5 y6, σ = [some (.ref ta), some (.ref ea), some (.ref D), y3, y4, y5, y6, none, none, none]) ⟨sm1, ⟨List.replicate tbl.length [], ⟨eD1, by rw [List.length_replicate, lb], nb, DB, fun k b xs x y => ?_⟩, fun xs h => by rw [(List.mem_replicate.mp h).2]; exact Nat.zero_le _, fun k j xs y => ?_⟩, none, none, none, none, rfl⟩ (fun i σ G _ hW => .inl (.inl (hW.1 _ _ r3.1))) (fun i x σ G G' hi hW hY => ?_) (fun σ G2 hW => ?_)
    · rw [(List.mem_replicate.mp (List.mem_of_getElem? y)).2]
      exact (fb b (List.mem_of_getElem? x)).2.2
    · rw [(List.mem_replicate.mp (List.mem_of_getElem? y)).2]
      exact ⟨fun h => (nomatch h), fun h => absurd h.1 (Nat.not_lt_zero _)⟩
    · obtain ⟨sG, ⟨B, bk, lB, mB⟩, y3, y4, y5, y6, rfl⟩ := hW
      obtain ⟨T1, v1, v2, rfl, nT1, rfl, e1, e2⟩ := hY
      cases e1
      rw [List.length_map] at hi
      obtain ⟨ra, hra, rfl⟩ := vr_at e2
      have hrow_ := List.getElem?_eq_getElem (l := tbl) (i := i) (by omega)
      obtain ⟨hr5, hrv⟩ := hrow _ (List.getElem_mem (l := tbl) (n := i) (by omega))
      generalize tbl[i]'(by omega) = row at hrow_ hr5 hrv
      have g3 := r3.2.2 i ra row hra hrow_
      obtain ⟨gas, ega, lga, cga⟩ := g3
      refine ⟨T1, [.int (i : Int), .ref ra], rfl, .inl (.inl upd_same), rfl, .int (i : Int), [.ref ra], rfl, .ref ra, [], rfl, rfl, ?_⟩
      have sT := same_new (o := .tup [.int (i : Int), .ref ra]) nT1
      have sG1 := sG.trans sT
      have bk1 : BackAt (upd G T1 (.tup [.int (i : Int), .ref ra])) D bas B := bk.mono fun b o e _ => sT _ _ e
      generalize upd G T1 (.tup [.int (i : Int), .ref ra]) = G1 at sG1 bk1
      -- for group in row
      refine ⟨.ref ra, rfl, ra, rfl, ⟨_, .inl (.inl (sG1 _ _ ega))⟩, ?_⟩
      refine for_it (walk_list (K := K) (a := ra) (xs := vr gas)) (fun c σ G => Same H G ∧ (∃ B : List (List Nat), BackAt G D bas B ∧ (∀ xs ∈ B, xs.length ≤ 5 * i + c) ∧ ∀ (k j : Nat) (xs : List Nat), B[k]? = some xs → (j ∈ xs ↔ (j < i ∧ ∃ c, AtT tbl j c k) ∨ (j = i ∧ ∃ c', c' < c ∧ row[c']? = some k))) ∧ ∃ y5 y6, σ = [some (.ref ta), some (.ref ea), some (.ref D), some (.int (i : Int)), some (.ref ra), y5, y6, none, none, none]) ⟨sG1, ⟨B, bk1, lB, fun k j xs y => by rw [mB k j xs y]; exact ⟨.inl, fun h => h.elim id fun ⟨_, _, h, _⟩ => absurd h (Nat.not_lt_zero _)⟩⟩, y5, y6, rfl⟩ (fun c σ G _ hW => .inl (.inl (hW.1 _ _ ega))) (fun c x σ G2 G2' hc hW hY => ?_) (fun σ G2 hW => ?_)
      · obtain ⟨sG2, ⟨B, bk2, lB, mB⟩, y5, y6, rfl⟩ := hW
        obtain ⟨rfl, hx⟩ := hY
        obtain ⟨ga, hga, rfl⟩ := vr_at hx
        rw [List.length_map] at hc
        have hv_ := List.getElem?_eq_getElem (l := row) (i := c) (by omega)
        have hvn := hrv _ (List.getElem_mem (l := row) (n := c) (by omega))
        generalize row[c]'(by omega) = v at hv_ hvn
        have eg := cga c ga v hga hv_
        refine ⟨.ref ga, rfl, ga, rfl, ⟨_, .inl (.inl (sG2 _ _ eg))⟩, ?_⟩
        -- for target in group
        refine for_it (walk_list (K := K) (a := ga) (xs := vi [v])) (fun n σ G => Same H G ∧ (∃ B : List (List Nat), BackAt G D bas B ∧ (∀ xs ∈ B, xs.length ≤ 5 * i + c + n) ∧ ∀ (k j : Nat) (xs : List Nat), B[k]? = some xs → (j ∈ xs ↔ ((j < i ∧ ∃ c, AtT tbl j c k) ∨ (j = i ∧ ∃ c', c' < c ∧ row[c']? = some k)) ∨ (n = 1 ∧ j = i ∧ k = v))) ∧ ∃ y6, σ = [some (.ref ta), some (.ref ea), some (.ref D), some (.int (i : Int)), some (.ref ra), some (.ref ga), y6, none, none, none]) ⟨sG2, ⟨B, bk2, lB, fun k j xs y => by rw [mB k j xs y]; exact ⟨.inl, fun h => h.elim id fun h => absurd h.1 (by decide)⟩⟩, y6, rfl⟩ (fun n σ G _ hW => .inl (.inl (hW.1 _ _ eg))) (fun n x σ G3 G3' hn1 hW hY => ?_) (fun σ G3 hW => ?_)
        · obtain ⟨sG3, ⟨B, bk3, lB, mB⟩, y6, rfl⟩ := hW
          obtain ⟨rfl, hx⟩ := hY
          have hn1 : n < 1 := hn1
          obtain rfl : n = 0 := by omega
          have hx : some (V.int (v : Int)) = some x := hx
          cases hx
          have hbv := List.getElem?_eq_getElem (l := bas) (i := v) (by omega)
          have hbm := List.getElem_mem (l := bas) (n := v) (by omega)
          generalize bas[v]'(by omega) = b at hbv hbm
          have hBl := bk3.2.1
          have hBv := List.getElem?_eq_getElem (l := B) (i := v) (by omega)
          have hBm := List.getElem_mem (l := B) (n := v) (by omega)
          generalize B[v]'(by omega) = xs at hBv hBm
          have eb := bk3.2.2.2.2 v b xs hbv hBv
          have lx := lB xs hBm
          refine ⟨.ref D, rfl, .int (v : Int), rfl, D, _, (v : Int), .ref b, rfl, rfl, .inl (.inl bk3.1), atI_nat (vr_get hbv), .inl ⟨rfl, _, .inl (.inl eb)⟩, .int (i : Int), rfl, b, _, _, rfl, rfl, eb, by rw [List.length_map]; exact sl _ (by omega), ?_⟩
          rw [vi_snoc]
          refine ⟨up hbm sG3, ⟨B.set v (xs ++ [i]), bk3.put hbv hBv, fun zs hz => ?_, fun k j zs y => ?_⟩, _, rfl⟩
          · rcases List.mem_or_eq_of_mem_set hz with h | rfl
            · have := lB zs h
              omega
            · rw [List.length_append]
              show xs.length + 1 ≤ _
              omega
          · by_cases e : v = k
            · subst e
              rw [List.getElem?_set_self (by omega)] at y
              cases y
              rw [List.mem_append, List.mem_singleton, mB v j xs hBv]
              constructor
              · rintro ((h | h) | h)
                · exact .inl h
                · exact absurd h.1 (by decide)
                · exact .inr ⟨rfl, h, rfl⟩
              · rintro (h | ⟨_, h, _⟩)
                · exact .inl (.inl h)
                · exact .inr h
            · rw [List.getElem?_set_ne e] at y
              rw [mB k j zs y]
              constructor
              · rintro (h | h)
                · exact .inl h
                · exact absurd h.1 (by decide)
              · rintro (h | ⟨_, _, h⟩)
                · exact .inl h
                · exact absurd h.symm e
        · obtain ⟨sG3, ⟨B, bk3, lB, mB⟩, y6, rfl⟩ := hW
          refine ⟨sG3, ⟨B, bk3, lB, fun k j xs y => ?_⟩, _, _, rfl⟩
          rw [mB k j xs y]
          constructor
          · rintro ((h | ⟨h1, c', h2, h3⟩) | ⟨_, h1, h2⟩)
            · exact .inl h
            · exact .inr ⟨h1, c', by omega, h3⟩
            · exact .inr ⟨h1, c, Nat.lt_succ_self c, h2 ▸ hv_⟩
          · rintro (h | ⟨h1, c', h2, h3⟩)
            · exact .inl (.inl h)
            · by_cases e : c' < c
              · exact .inl (.inr ⟨h1, c', e, h3⟩)
              · obtain rfl : c' = c := by omega
                rw [hv_] at h3
                exact .inr ⟨rfl, h1, (Option.some.inj h3).symm⟩
      · obtain ⟨sG2, ⟨B, bk2, lB, mB⟩, y5, y6, rfl⟩ := hW
        rw [List.length_map] at lB mB
        refine ⟨sG2, ⟨B, bk2, fun xs hx => by have := lB xs hx; omega, fun k j xs y => ?_⟩, _, _, _, _, rfl⟩
        rw [mB k j xs y]
        constructor
        · rintro (⟨h1, h2⟩ | ⟨rfl, c', _, h3⟩)
          · exact ⟨by omega, h2⟩
          · exact ⟨Nat.lt_succ_self _, c', row, hrow_, h3⟩
        · rintro ⟨h1, c', h2⟩
          by_cases e : j < i
          · exact .inl ⟨e, c', h2⟩
          · obtain rfl : j = i := by omega
            obtain ⟨r', a1, a2⟩ := h2
            rw [hrow_] at a1
            cases a1
            exact .inr ⟨rfl, c', by rw [lga]; exact (List.getElem?_eq_some_iff.mp a2).1, a2⟩
    obtain ⟨sm2, ⟨B, bk2, lB, mB⟩, y3, y4, y5, y6, rfl⟩ := hW
    rw [List.length_map, hrl] at lB mB
    have hBl := bk2.2.1
    have mB : ∀ (k j : Nat) (xs : List Nat), B[k]? = some xs → (j ∈ xs ↔ ∃ c, AtT tbl j c k) := fun k j xs y => by
      rw [mB k j xs y]
      exact ⟨fun h => h.2, fun ⟨c, h⟩ => ⟨by obtain ⟨r, a, _⟩ := h; exact (List.getElem?_eq_some_iff.mp a).1, c, h⟩⟩
    -- leads
    refine ⟨.ref ea, rfl, ea, _, rfl, .inl (.inl (.inl (sm2 _ _ he))), fun lp nlp => ?_⟩
    have s3 := same_new (o := .lst (vb bs)) nlp
    have elp : (upd G2 lp (.lst (vb bs))) lp = some (.lst (vb bs)) := upd_same
    have flp : H lp = none := sm2.free nlp
    have bk3 : BackAt (upd G2 lp (.lst (vb bs))) D bas B := bk2.mono fun b o e _ => s3 _ _ e
    have sm3 := sm2.trans s3
    generalize upd G2 lp (.lst (vb bs)) = G3 at s3 elp bk3 sm3
    -- found
    refine ⟨.ref ea, rfl, ea, _, rfl, .inl (.inl (sm3 _ _ he)), fun fo nfo => ?_⟩
    have ffo : H fo = none := sm3.free nfo
    refine lc_it (walk_enum (K := K) (a := ea) (xs := vb bs)) (fun i G => Same G3 G ∧ ∃ fs : List Nat, G fo = some (.lst (vi fs)) ∧ fs.length ≤ i ∧ ∀ j, j ∈ fs ↔ j < i ∧ bs[j]? = some true) ⟨same_new nfo, [], upd_same, Nat.le_refl _, fun j => ⟨fun h => (nomatch h), fun h => absurd h.1 (Nat.not_lt_zero _)⟩⟩ (fun i G _ hW => .inl (.inl (hW.1 _ _ (sm3 _ _ he)))) (fun i x G G' hi hW hY => ?_) (fun G4 hW => ?_)
    · obtain ⟨sG, fs, ef, lf, mf⟩ := hW
      obtain ⟨T1, v1, v2, rfl, nT1, rfl, e1, e2⟩ := hY
      cases e1
      rw [List.length_map] at hi
      obtain ⟨b, hb, rfl⟩ := vb_at e2
      have sT := same_new (o := .tup [.int (i : Int), .bl b]) nT1
      refine ⟨T1, [.int (i : Int), .bl b], rfl, .inl (.inl upd_same), rfl, .int (i : Int), [.bl b], rfl, .bl b, [], rfl, rfl, ?_⟩
      refine ⟨rfl, .bl b, rfl, b, rfl, ?_⟩
      cases b with
      | true =>
        refine iteT ⟨.int (i : Int), rfl, vi fs, sT _ _ ef, by rw [List.length_map]; exact sl _ (by omega), ?_, fs ++ [i], by rw [upd_same, vi_snoc], by rw [List.length_append]; show fs.length + 1 ≤ i + 1; omega, fun j => ?_⟩
        · intro c o e
          rw [upd_ne (ne_of_none e nfo)]
          exact sT _ _ (sG _ _ e)
        · rw [List.mem_append, List.mem_singleton, mf j]
          constructor
          · rintro (⟨a, b⟩ | rfl)
            · exact ⟨by omega, b⟩
            · exact ⟨Nat.lt_succ_self _, hb⟩
          · rintro ⟨a, b⟩
            by_cases e : j < i
            · exact .inl ⟨e, b⟩
            · exact .inr (by omega)
      | false =>
        refine iteF ⟨sG.trans sT, fs, sT _ _ ef, by omega, fun j => ?_⟩
        rw [mf j]
        constructor
        · rintro ⟨a, b⟩
          exact ⟨by omega, b⟩
        · rintro ⟨a, b⟩
          refine ⟨?_, b⟩
          by_cases e : j < i
          · exact e
          · obtain rfl : j = i := by omega
            rw [hb] at b
            cases b
    obtain ⟨s4, fs0, ef0, lf0, mf0⟩ := hW
    rw [List.length_map] at lf0 mf0
    have elp4 := s4 _ _ elp
    have bk4 : BackAt G4 D bas B := bk3.mono fun b o e _ => s4 _ _ e
    have sm4 := sm3.trans s4
    have lpf : lp ≠ fo := ne_of_none elp nfo
    have Dlp : D ≠ lp := ne_of_none bk2.1 nlp
    have Dfo : D ≠ fo := ne_of_none bk3.1 nfo
    have blp : ∀ b ∈ bas, b ≠ lp ∧ b ≠ fo := fun b hb => by
      obtain ⟨k, hk⟩ := List.mem_iff_getElem?.mp hb
      have hkl := (List.getElem?_eq_some_iff.mp hk).1
      have hBk := List.getElem?_eq_getElem (l := B) (i := k) (by omega)
      exact ⟨ne_of_none (bk2.2.2.2.2 k b _ hk hBk) nlp, ne_of_none (bk3.2.2.2.2 k b _ hk hBk) nfo⟩
    -- while
    refine ⟨fun m σ G => ∃ (ls : List Bool) (fs : List Nat) (y3 y6 : Option V), m = fs.length + ls.count false ∧ σ = [some (.ref ta), some (.ref ea), some (.ref D), y3, y4, y5, y6, some (.ref lp), some (.ref fo), none] ∧ (∀ b o, b ≠ lp → b ≠ fo → G4 b = some o → G b = some o) ∧ G lp = some (.lst (vb ls)) ∧ G fo = some (.lst (vi fs)) ∧ ls.length = tbl.length ∧ (∀ j : Nat, ls[j]? = some true → Lead tbl bs j) ∧ (∀ j ∈ fs, ls[j]? = some true) ∧ (∀ j : Nat, bs[j]? = some true → ls[j]? = some true) ∧ (∀ k : Nat, ls[k]? = some true → k ∈ fs ∨ ∀ j c : Nat, AtT tbl j c k → ls[j]? = some true) ∧ m ≤ 2 * tbl.length,
      ⟨_, bs, fs0, y3, y6, rfl, rfl, fun _ _ _ _ e => e, elp4, ef0, hbl, fun j h => .stop h, fun j h => ((mf0 j).mp h).2, fun j h => h, fun k h => .inl ((mf0 k).mpr ⟨(List.getElem?_eq_some_iff.mp h).1, h⟩), by have := List.count_le_length (a := false) (l := bs); omega⟩, fun m σ G hW => ?_⟩
    obtain ⟨ls, fs, y3, y6, hm, rfl, fr, el, ef, ll, snd, ftr, stp, clo, hbm⟩ := hW
    refine ⟨.ref fo, rfl, fo, _, rfl, .inl (.inl (.inl ef)), _, 0, rfl, rfl, _, rfl, ite2 (fun z => ?_) (fun z => ?_)⟩
    · have hpos : 0 < fs.length := by
        have := of_decide_eq_true z
        rw [List.length_map] at this
        omega
      have hne : fs ≠ [] := List.length_pos_iff.mp hpos
      have eapp := List.dropLast_concat_getLast hne
      have hlast := List.getLast_mem hne
      have hge : fs[fs.length - 1]? = some (fs.getLast hne) := by
        rw [List.getLast_eq_getElem, List.getElem?_eq_getElem]
      generalize fs.getLast hne = t at eapp hlast hge
      have htt := ftr t hlast
      have htl : t < tbl.length := by
        rw [← ll]
        exact (List.getElem?_eq_some_iff.mp htt).1
      refine ⟨fun σ' G' => ∃ (ls : List Bool) (fs : List Nat) (y3 y6 : Option V), fs.length + ls.count false + 1 = m ∧ σ' = [some (.ref ta), some (.ref ea), some (.ref D), y3, y4, y5, y6, some (.ref lp), some (.ref fo), none] ∧ (∀ b o, b ≠ lp → b ≠ fo → G4 b = some o → G' b = some o) ∧ G' lp = some (.lst (vb ls)) ∧ G' fo = some (.lst (vi fs)) ∧ ls.length = tbl.length ∧ (∀ j : Nat, ls[j]? = some true → Lead tbl bs j) ∧ (∀ j ∈ fs, ls[j]? = some true) ∧ (∀ j : Nat, bs[j]? = some true → ls[j]? = some true) ∧ (∀ k : Nat, ls[k]? = some true → k ∈ fs ∨ ∀ j c : Nat, AtT tbl j c k → ls[j]? = some true) ∧ m ≤ 2 * tbl.length, fun σ' G' hN => ?_, ?_⟩
      · obtain ⟨ls, fs, y3, y6, c1, c2⟩ := hN
        obtain ⟨d1, d2, d3, d4, d5, d6, d7, d8, d9, d10⟩ := c2
        exact ⟨m - 1, by omega, ls, fs, y3, y6, by omega, d1, d2, d3, d4, d5, d6, d7, d8, d9, by omega⟩
      -- target = found.pop()
      refine ⟨.ref fo, rfl, .inl ⟨rfl, _, .inl (.inl ef)⟩, fo, _, .int (t : Int), rfl, rfl, ef, by rw [List.length_map]; exact vi_get hge, ?_⟩
      have ld : fs.dropLast.length + 1 = fs.length := by rw [List.length_dropLast]; omega
      have hbt := List.getElem?_eq_getElem (l := bas) (i := t) (by omega)
      have hbB := List.getElem_mem (l := bas) (n := t) (by omega)
      generalize bas[t]'(by omega) = b at hbt hbB
      have hBt := List.getElem?_eq_getElem (l := B) (i := t) (by omega)
      generalize B[t]'(by omega) = xs at hBt
      obtain ⟨b1, b2⟩ := blp b hbB
      have eb4 := bk4.2.2.2.2 t b xs hbt hBt
      have elb : G lp = some (.lst (vb ls)) := el
      have frp : ∀ c o, c ≠ lp → c ≠ fo → G4 c = some o → (upd G fo (.lst (vi fs).dropLast)) c = some o := fun c o h1 h2 e => by
        rw [upd_ne h2]
        exact fr c o h1 h2 e
      refine ⟨.ref D, rfl, .int (t : Int), rfl, D, _, (t : Int), .ref b, rfl, rfl, .inl (.inl (frp _ _ Dlp Dfo bk4.1)), atI_nat (vr_get hbt), b, rfl, ⟨_, .inl (.inl (frp _ _ b1 b2 eb4))⟩, ?_⟩
      refine for_it (walk_list (K := K) (a := b) (xs := vi xs)) (fun i σ G' => ∃ (ls : List Bool) (fs : List Nat) (y3 : Option V), fs.length + ls.count false + 1 = m ∧ σ = [some (.ref ta), some (.ref ea), some (.ref D), y3, y4, y5, some (.int (t : Int)), some (.ref lp), some (.ref fo), none] ∧ (∀ b o, b ≠ lp → b ≠ fo → G4 b = some o → G' b = some o) ∧ G' lp = some (.lst (vb ls)) ∧ G' fo = some (.lst (vi fs)) ∧ ls.length = tbl.length ∧ (∀ j : Nat, ls[j]? = some true → Lead tbl bs j) ∧ (∀ j ∈ fs, ls[j]? = some true) ∧ (∀ j : Nat, bs[j]? = some true → ls[j]? = some true) ∧ (∀ k : Nat, ls[k]? = some true → k = t ∨ k ∈ fs ∨ ∀ j c : Nat, AtT tbl j c k → ls[j]? = some true) ∧ (∀ j ∈ xs.take i, ls[j]? = some true) ∧ ls[t]? = some true) ⟨ls, fs.dropLast, y3, by omega, rfl, frp, by rw [upd_ne lpf]; exact el, by rw [upd_same, vi_dropLast], ll, snd, (fun j h => ftr j (List.dropLast_subset _ h)), stp, (fun k h => ?_), (fun j h => by rw [List.take_zero] at h; cases h), htt⟩ (fun i σ G' _ hW => ?_) (fun i x σ G5 G5' hi hW hY => ?_) (fun σ G5 hW => ?_)
      · rcases clo k h with h2 | h2
        · rw [← eapp] at h2
          rcases List.mem_append.mp h2 with h3 | h3
          · exact .inr (.inl h3)
          · exact .inl (List.mem_singleton.mp h3)
        · exact .inr (.inr h2)
      · obtain ⟨_, _, _, _, _, z, _⟩ := hW
        exact .inl (.inl (z _ _ b1 b2 eb4))
      · obtain ⟨ls, fs, y3, hm5, rfl, fr5, el5, ef5, ll5, snd5, ftr5, stp5, clo5, tk5, tt5⟩ := hW
        obtain ⟨rfl, hx⟩ := hY
        obtain ⟨j, hj, rfl⟩ := int_at hx
        obtain ⟨c, hat⟩ := (mB t j xs hBt).mp (List.mem_of_getElem? hj)
        have hjl : j < ls.length := by
          rw [ll5]
          obtain ⟨r, a1, _⟩ := hat
          exact (List.getElem?_eq_some_iff.mp a1).1
        have hlj := List.getElem?_eq_getElem hjl
        generalize ls[j] = v at hlj
        refine ⟨.ref lp, rfl, .int (j : Int), rfl, lp, _, (j : Int), .bl v, rfl, rfl, .inl (.inl el5), atI_nat (vb_get hlj), v, rfl, ?_⟩
        cases v with
        | true =>
          refine iteF ⟨ls, fs, _, hm5, rfl, fr5, el5, ef5, ll5, snd5, ftr5, stp5, clo5, fun u hu => ?_, tt5⟩
          rw [List.take_add_one, hj] at hu
          rcases List.mem_append.mp hu with h | h
          · exact tk5 u h
          · rw [List.mem_singleton.mp h]
            exact hlj
        | false =>
          have hc := count_put hlj
          refine iteT ⟨.ref lp, rfl, .int (j : Int), rfl, lp, _, (j : Int), j, rfl, rfl, el5, ?_, ?_⟩
          · unfold ixN
            rw [List.length_map, if_pos (by omega), if_pos (by omega)]
            simp
          have ef6 : (upd G5' lp (.lst ((vb ls).set j (.bl true)))) fo = some (.lst (vi fs)) := by
            rw [upd_ne lpf.symm]
            exact ef5
          refine ⟨.ref fo, rfl, .inl ⟨rfl, _, .inl (.inl ef6)⟩, .int (j : Int), rfl, fo, _, _, rfl, rfl, ef6, by rw [List.length_map]; exact sl _ (by omega), ls.set j true, fs ++ [j], _, ?_, rfl, ?_, ?_, ?_, by rw [List.length_set]; exact ll5, fun k h => ?_, mem_snoc (fun k h => set_true (ftr5 k h)) (by rw [List.getElem?_set_self hjl]), fun k h => set_true (stp5 k h), fun k h => ?_, fun u hu => ?_, set_true tt5⟩
          · rw [List.length_append]
            show fs.length + 1 + _ + 1 = m
            omega
          · intro c' o h1 h2 e
            rw [upd_ne h2, upd_ne h1]
            exact fr5 c' o h1 h2 e
          · rw [upd_ne lpf, upd_same, vb_set]
          · rw [upd_same, vi_snoc]
          · rcases set_back h with rfl | h
            · exact .step hat (snd5 t tt5)
            · exact snd5 k h
          · rcases set_back h with rfl | h
            · exact .inr (.inl (List.mem_append_right _ (List.mem_singleton.mpr rfl)))
            · rcases clo5 k h with h2 | h2 | h2
              · exact .inl h2
              · exact .inr (.inl (List.mem_append_left _ h2))
              · exact .inr (.inr fun a b c => set_true (h2 a b c))
          · rw [List.take_add_one, hj] at hu
            rcases List.mem_append.mp hu with h | h
            · exact set_true (tk5 u h)
            · rw [List.mem_singleton.mp h, List.getElem?_set_self hjl]
      · obtain ⟨ls, fs, y3, hm5, rfl, fr5, el5, ef5, ll5, snd5, ftr5, stp5, clo5, tk5, tt5⟩ := hW
        rw [List.length_map, List.take_of_length_le (Nat.le_refl _)] at tk5
        refine ⟨ls, fs, _, _, hm5, rfl, fr5, el5, ef5, ll5, snd5, ftr5, stp5, fun k h => ?_, hbm⟩
        rcases clo5 k h with rfl | h2 | h2
        · exact .inr fun j c hat => tk5 j ((mB k j xs hBt).mpr ⟨c, hat⟩)
        · exact .inl h2
        · exact .inr h2
    · have hz : fs = [] := by
        have : ¬ (0 : Int) < ((vi fs).length : Nat) := fun y => z (decide_eq_true y)
        rw [List.length_map] at this
        exact List.length_eq_zero_iff.mp (by omega)
      subst hz
      have sG : Same H G := fun b o e => fr b o (ne_of_none e flp) (ne_of_none e ffo) (sm4 _ _ e)
      refine ⟨.ref lp, rfl, q G lp ls sG flp el ll fun j => ⟨snd j, fun h => ?_⟩⟩
      induction h with
      | stop h => exact stp _ h
      | step hat _ ih =>
        rcases clo _ ih with h2 | h2
        · cases h2
        · exact h2 _ _ hat
end
end LH

namespace LH
open PySem PySem.Spec PyProof.Rows L2 NdefX LamX
theorem vb_snoc (bs : List Bool) (b : Bool) : vb bs ++ [V.bl b] = vb (bs ++ [b]) := by
  unfold vb
  rw [List.map_append]
  rfl
/-! ### states that are come to, states that lead on -/
inductive RchS (R : Nat → List Nat) (s0 : Nat) : Nat → Prop
  | refl : RchS R s0 s0
  | step {s t : Nat} : RchS R s0 s → t ∈ R s → RchS R s0 t
inductive LdS (R : Nat → List Nat) (fin : Nat → Bool) : Nat → Prop
  | stop {s : Nat} : fin s = true → LdS R fin s
  | step {s t : Nat} : t ∈ R s → LdS R fin t → LdS R fin s
structure UsOk (R : Nat → List Nat) (fin : Nat → Bool) (s0 n0 : Nat) (us : List Nat) : Prop where
  nd : us.Nodup
  lt : ∀ s ∈ us, s < n0
  mem : ∀ s, s ∈ us ↔ RchS R s0 s ∧ LdS R fin s
def WaysAt (H : Hp) (wa : Addr) (us : List Nat) (L : Nat) (R : Nat → List Nat) : Prop := ∃ cas : List Addr, H wa = some (.lst (vr cas)) ∧ cas.length = L ∧ ∀ (c : Nat) (ca : Addr), cas[c]? = some ca → ∃ xs : List Addr, H ca = some (.lst (vr xs)) ∧ xs.length = us.length ∧ ∀ (i : Nat) (x : Addr) (s t : Nat), xs[i]? = some x → us[i]? = some s → (R s)[c]? = some t → H x = some (.lst (vi (if t ∈ us then [us.idxOf t] else [])))
theorem WaysAt.mono {H H' : Hp} {wa : Addr} {us : List Nat} {L : Nat} {R : Nat → List Nat} (m : ∀ b xs, H b = some (.lst xs) → H' b = some (.lst xs)) (h : WaysAt H wa us L R) : WaysAt H' wa us L R := by
  obtain ⟨cas, a, b, c⟩ := h
  refine ⟨cas, m _ _ a, b, fun k ca e => ?_⟩
  obtain ⟨xs, d1, d2, d3⟩ := c k ca e
  exact ⟨xs, m _ _ d1, d2, fun i x s t e1 e2 e3 => m _ _ (d3 i x s t e1 e2 e3)⟩
/-! ### numbers and states -/
section
variable {n0 L s0 : Nat} {R : Nat → List Nat} {fin : Nat → Bool} {ks : List Nat} {tbl : List (List Nat)}
theorem num_at {j : Nat} (h : j < ks.length) : ks[j]? = some (ks.getD j 0) := by
  rw [List.getD_eq_getElem?_getD, List.getElem?_eq_getElem h]
  rfl
theorem num_inj (nd : ks.Nodup) {i j : Nat} (hi : i < ks.length) (hj : j < ks.length) (e : ks.getD i 0 = ks.getD j 0) : i = j := by
  have a := num_at hi
  have b := num_at hj
  rw [List.getElem?_eq_getElem hi] at a
  rw [List.getElem?_eq_getElem hj] at b
  refine (List.getElem_inj (h₀ := hi) (h₁ := hj) nd).mp ?_
  rw [Option.some.inj a, Option.some.inj b, e]
theorem at_num (wi : WI n0 L R s0 ks tbl) (hlen : tbl.length = ks.length) {j c v : Nat} (h : AtT tbl j c v) : j < ks.length ∧ v < ks.length ∧ (R (ks.getD j 0))[c]? = some (ks.getD v 0) := by
  obtain ⟨row, a, b⟩ := h
  have hj : j < ks.length := by
    rw [← hlen]
    exact (List.getElem?_eq_some_iff.mp a).1
  obtain ⟨_, z⟩ := wi.row j _ row (num_at hj) a
  obtain ⟨t, y1, y2⟩ := z c v b
  have hv := (List.getElem?_eq_some_iff.mp y2).1
  rw [num_at hv] at y2
  exact ⟨hj, hv, by rw [y1, ← Option.some.inj y2]⟩
theorem num_at_ex (wi : WI n0 L R s0 ks tbl) (hlen : tbl.length = ks.length) (full : ∀ r ∈ tbl, r.length = L) (hR : ∀ s, s < n0 → (R s).length = L ∧ ∀ t ∈ R s, t < n0) {j t : Nat} (hj : j < ks.length) (ht : t ∈ R (ks.getD j 0)) : ∃ c v, AtT tbl j c v ∧ ks.getD v 0 = t := by
  have hjt : j < tbl.length := by omega
  have a := List.getElem?_eq_getElem hjt
  have hl := full _ (List.getElem_mem hjt)
  generalize tbl[j] = row at a hl
  obtain ⟨c, hc⟩ := List.mem_iff_getElem?.mp ht
  have hcl := (List.getElem?_eq_some_iff.mp hc).1
  have hs := wi.lt _ (List.mem_of_getElem? (num_at hj))
  have b := List.getElem?_eq_getElem (l := row) (i := c) (by rw [hl, ← (hR _ hs).1]; exact hcl)
  obtain ⟨_, z⟩ := wi.row j _ row (num_at hj) a
  obtain ⟨t', y1, y2⟩ := z c _ b
  rw [hc] at y1
  cases y1
  have hv := (List.getElem?_eq_some_iff.mp y2).1
  rw [num_at hv] at y2
  exact ⟨c, _, ⟨row, a, b⟩, Option.some.inj y2⟩
theorem lead_iff (wi : WI n0 L R s0 ks tbl) (hlen : tbl.length = ks.length) (full : ∀ r ∈ tbl, r.length = L) (hR : ∀ s, s < n0 → (R s).length = L ∧ ∀ t ∈ R s, t < n0) {j : Nat} (hj : j < ks.length) : Lead tbl (ks.map fin) j ↔ LdS R fin (ks.getD j 0) := by
  constructor
  · intro h
    induction h with
    | stop h =>
      rw [List.getElem?_map, num_at hj] at h
      exact .stop (Option.some.inj h)
    | step hat _ ih =>
      obtain ⟨_, hv, e⟩ := at_num wi hlen hat
      exact .step (List.mem_of_getElem? e) (ih hv)
  · intro h
    generalize hs : ks.getD j 0 = s at h
    induction h generalizing j with
    | stop h =>
      refine .stop ?_
      rw [List.getElem?_map, num_at hj, hs]
      exact congrArg some h
    | step ht _ ih =>
      rw [← hs] at ht
      obtain ⟨c, v, hat, e⟩ := num_at_ex wi hlen full hR hj ht
      exact .step hat (ih (at_num wi hlen hat).2.1 e)
theorem rch_mem (wi : WI n0 L R s0 ks tbl) (hlen : tbl.length = ks.length) (full : ∀ r ∈ tbl, r.length = L) (hR : ∀ s, s < n0 → (R s).length = L ∧ ∀ t ∈ R s, t < n0) {s : Nat} : s ∈ ks ↔ RchS R s0 s := by
  constructor
  · intro h
    obtain ⟨k, hk⟩ := List.mem_iff_getElem?.mp h
    induction k using Nat.strongRecOn generalizing s with
    | _ k ih =>
      by_cases h0 : k = 0
      · subst h0
        rw [wi.one] at hk
        cases hk
        exact .refl
      · have hl := (List.getElem?_eq_some_iff.mp hk).1
        obtain ⟨r, c, hr, hat, _⟩ := wi.bfs k (by omega) hl
        obtain ⟨h1, h2, e⟩ := at_num wi hlen hat
        rw [num_at h2] at hk
        cases hk
        exact .step (ih r hr (List.mem_of_getElem? (num_at h1)) (num_at h1)) (List.mem_of_getElem? e)
  · intro h
    induction h with
    | refl => exact List.mem_of_getElem? wi.one
    | step _ ht ih =>
      obtain ⟨j, hj⟩ := List.mem_iff_getElem?.mp ih
      have hjl := (List.getElem?_eq_some_iff.mp hj).1
      rw [num_at hjl] at hj
      cases hj
      obtain ⟨c, v, hat, e⟩ := num_at_ex wi hlen full hR hjl ht
      exact e ▸ List.mem_of_getElem? (num_at (at_num wi hlen hat).2.1)
end
theorem idx_map {ks : List Nat} (nd : ks.Nodup) : ∀ {os : List Nat} {v : Nat}, (∀ a ∈ os, a < ks.length) → v < ks.length → (os.map fun j => ks.getD j 0).idxOf (ks.getD v 0) = os.idxOf v ∧ (ks.getD v 0 ∈ (os.map fun j => ks.getD j 0) ↔ v ∈ os)
  | [], v, _, _ => ⟨rfl, by simp⟩
  | a :: os, v, h, hv => by
    obtain ⟨i1, i2⟩ := idx_map nd (os := os) (v := v) (fun b hb => h b (List.mem_cons_of_mem _ hb)) hv
    have ha := h a List.mem_cons_self
    rw [List.map_cons, List.idxOf_cons, List.idxOf_cons, List.mem_cons, List.mem_cons, i1, i2]
    by_cases e : a = v
    · subst e
      simp
    · have ne : ks.getD a 0 ≠ ks.getD v 0 := fun q => e (num_inj nd ha hv q)
      rw [show (ks.getD a 0 == ks.getD v 0) = false from beq_eq_false_iff_ne.mpr ne, show (a == v) = false from beq_eq_false_iff_ne.mpr e]
      refine ⟨rfl, ?_⟩
      constructor
      · rintro (q | q)
        · exact absurd q.symm ne
        · exact .inr q
      · rintro (q | q)
        · exact absurd q.symm e
        · exact .inr q
def osF (ls : List Bool) (i : Nat) : List Nat := (List.range i).filter fun j => decide (ls[j]? = some true)
theorem osF_mem {ls : List Bool} {i j : Nat} : j ∈ osF ls i ↔ j < i ∧ ls[j]? = some true := by
  unfold osF
  rw [List.mem_filter, List.mem_range, decide_eq_true_iff]
theorem osF_nd (ls : List Bool) (i : Nat) : (osF ls i).Nodup := List.Nodup.sublist List.filter_sublist List.nodup_range
theorem osF_succ {ls : List Bool} {i : Nat} : osF ls (i + 1) = if ls[i]? = some true then osF ls i ++ [i] else osF ls i := by
  unfold osF
  rw [List.range_succ, List.filter_append]
  by_cases e : ls[i]? = some true
  · rw [if_pos e, List.filter_cons, if_pos (decide_eq_true e)]
    rfl
  · rw [if_neg e, List.filter_cons, if_neg (by rw [decide_eq_false e]; exact Bool.false_ne_true), List.filter_nil, List.append_nil]
theorem mk_at {ks : List Nat} {i : Nat} {k : Key} {v : V} (h : (mk ks)[i]? = some (k, v)) : ∃ s, ks[i]? = some s ∧ k = Sum.inl (s : Int) ∧ v = .int (i : Int) := by
  rw [List.getElem?_map, List.getElem?_zipIdx] at h
  cases e : ks[i]? with
  | none =>
    rw [e] at h
    cases h
  | some s =>
    rw [e] at h
    cases h
    exact ⟨s, rfl, rfl, by simp⟩
section
variable {P : Program} {w : World} {K : PySem.W.Frag} {mg : Str → Option Value} {base : Heap}
def sp_useful_ways (P : Program) (w : World) (K : PySem.W.Frag) (mg : Str → Option Value) (base : Heap) : Sp := fun vs H Q _ => ∃ (st f g : Addr) (F G : NF) (spf spg : Sp) (s0 n0 L : Nat) (R : Nat → List Nat) (fin : Nat → Bool), vs = [.ref st, .ref f, .ref g] ∧ H st = some (.lst (vi [s0])) ∧ H f = some (FnO f F) ∧ Callable P w K mg base 4 f spf ∧ H g = some (FnO g G) ∧ Callable P w K mg base 4 g spg ∧ s0 < n0 ∧ n0 ≤ 100000 ∧ 1 ≤ L ∧ L ≤ 5 ∧ (∀ s, s < n0 → (R s).length = L ∧ ∀ t ∈ R s, t < n0) ∧ MovesOk H n0 R spf ∧
  (∀ (s : Nat) (H' : Hp) (Q' : VK), s < n0 → Same H H' → (∀ H'', Same H' H'' → Q' (.bl (fin s)) H'') → spg [.int (s : Int)] H' Q' E0) ∧
  ∀ H' p fa wa ea us, Same H H' → H' p = some (.tup [.ref fa, .ref wa, .ref ea]) → H' fa = some (.lst (vi (if s0 ∈ us then [us.idxOf s0] else []))) → WaysAt H' wa us L R → H' ea = some (.lst (vb (us.map fin))) → UsOk R fin s0 n0 us → Q (.ref p) H'
theorem ok_useful_ways (T : TX K mg) : FnOk P w K mg base CX0 6 T.a_useful_ways T.fd_useful_ways ["starts", "moves", "is_end"] (sp_useful_ways P w K mg base) := by
  have G_explored : FnOk P w K mg base CX0 5 T.a_explored T.fd_explored ["starts", "moves"] (sp_explored P w K mg base) := ok_explored T
  have G_leading : FnOk P w K mg base CX0 1 T.a_leading T.fd_leading ["rows", "ended"] sp_leading := ok_leading T
  refine T.F_useful_ways.ok sc_useful_ways (fun vs H Q E h => ?_) (fun cdv A outer s H vs Q E hr h => ?_)
  · obtain ⟨st, f, g, F, G, spf, spg, s0, n0, L, R, fin, rfl, _⟩ := h
    rfl
  · obtain ⟨st, f, g, F, G, spf, spg, s0, n0, L, R, fin, rfl, est, hf, caf, hg, cag, h0, hbig, hL1, hL5, hR, hmv, hfin, q⟩ := h
    refine ⟨_, (pss_cons (ps_asg (pe_call G_explored (hr.mono (by decide)) (by rfl) T.g_explored T.F_explored.kp T.b_explored .nil pass0 (pa_cons (pv 0) (pa_cons (pv 1) pa_nil))) (pg_tupK (n := 2) K rfl (by rfl) (pgs_cons (pg_name (i := 3) sc_useful_ways.nd rfl (Or.inl rfl)) (pgs_cons (pg_name (i := 4) sc_useful_ways.nd rfl (Or.inr rfl)) pgs_nil))))
      (pss_cons (ps_set (i := 5) sc_useful_ways.nd rfl (Or.inr rfl) (pe_lc (own := [("key", 12)]) (g := gName 12) (tt := tYes) (by rfl) sc_useful_ways.nd (pi_listK K rfl (pv 3)) (blkOk_by (own := [("key", 12)]) (N := N_useful_ways) (by kernel_rfl)) (fun _ _ _ _ _ => (pg_name (i := 12) sc_useful_ways.nd rfl (by first | exact Or.inl rfl | exact Or.inr rfl))) (fun _ _ _ _ _ => pts_nil) (fun _ _ _ _ _ => (pe_callV (k := 4) (i := 2) P w K mg base rfl rfl rfl rfl rfl (hr.mono (by decide)) rfl (by first | exact Or.inl rfl | exact Or.inr (Or.inl rfl) | exact Or.inr (Or.inr rfl)) (pa_cons (pv 12) pa_nil)))))
      (pss_cons (ps_set (i := 6) sc_useful_ways.nd rfl (Or.inr rfl) (pe_call G_leading (hr.mono (by decide)) (by rfl) T.g_leading T.F_leading.kp T.b_leading .nil pass0 (pa_cons (pv 4) (pa_cons (pv 5) pa_nil))))
      (pss_cons (ps_set (i := 7) sc_useful_ways.nd rfl (Or.inr rfl) pe_dnewK)
      (pss_cons (ps_for PassesOwn.never rfl (pi_range1 (by rfl) T.m_range (pa_cons (pe_callB (call_lenK K rfl) (by rfl) T.m_len (by decide +kernel) (pa_cons (pv 3) pa_nil)) pa_nil)) (pg_name (i := 8) sc_useful_ways.nd rfl (Or.inl rfl))
        (pss_one (ps_if (pt_val (pe_ix (ix_listK K rfl) (pv 6) (pv 8) (fun _ _ => rfl)))
            (pss_one (ps_dput (hu_of hr) (pv 7) (pv 8) (pe_callB call_lenD (by rfl) T.m_len (by decide +kernel) (pa_cons (pv 7) pa_nil)) rfl))
            pss_nil)))
      (pss_cons (ps_set (i := 9) sc_useful_ways.nd rfl (Or.inl rfl) (pe_callB (call_lenK K rfl) (by rfl) T.m_len (by decide +kernel) (pa_cons (pe_ix (ix_listK K rfl) (pv 4) pe_int (fun _ _ => rfl)) pa_nil)))
      (pss_cons (ps_lock (ps_setLc (i := 10) (own := [("column", 13)]) (g := gName 13) (tt := tYes) (by rfl) sc_useful_ways.nd rfl rfl (sw_true rfl rfl rfl (by decide +kernel)) (pi_range1 (by rfl) T.m_range (pa_cons (pv 9) pa_nil)) (blkOk_by (own := [("column", 13)]) (N := N_useful_ways) (by kernel_rfl)) (fun _ _ _ _ _ => (pg_name (i := 13) sc_useful_ways.nd rfl (by first | exact Or.inl rfl | exact Or.inr rfl))) (fun _ _ _ _ _ => pts_nil) (fun _ _ _ _ _ => (pe_lc (own := [("old", 8)]) (g := gName 8) (tt := tYes) (by rfl) sc_useful_ways.nd (pi_keys (pv 7)) (blkOk_by (own := [("old", 8)]) (N := N_useful_ways) (by kernel_rfl)) (fun _ _ _ _ _ => (pg_name (i := 8) sc_useful_ways.nd rfl (Or.inl rfl))) (fun _ _ _ _ _ => pts_nil) (fun _ _ _ _ _ => (pe_lc (own := [("to", 14)]) (g := gName 14) (by rfl) sc_useful_ways.nd (pi_listK K rfl (pe_ix (ix_listK K rfl) (pe_ix (ix_listK K rfl) (pv 4) (pv 8) (fun _ _ => rfl)) (pv 13) (fun _ _ => rfl))) (blkOk_by (own := [("to", 14)]) (N := N_useful_ways) (by kernel_rfl)) (fun _ _ _ _ _ => (pg_name (i := 14) sc_useful_ways.nd rfl (by first | exact Or.inl rfl | exact Or.inr rfl))) (fun _ _ _ _ _ => (pts_one (pt_val (pe_ix (ix_listK K rfl) (pv 6) (pv 14) (fun _ _ => rfl))))) (fun _ _ _ _ _ => (pe_dget (hu_of hr) (pv 7) (pv 14) (fun _ _ => rfl)))))))))
      (pss_cons (ps_setLc (i := 11) (own := [("old", 8)]) (g := gName 8) (by rfl) sc_useful_ways.nd rfl rfl (sw_true rfl rfl rfl (by decide +kernel)) (pi_range1 (by rfl) T.m_range (pa_cons (pe_callB (call_lenK K rfl) (by rfl) T.m_len (by decide +kernel) (pa_cons (pv 0) pa_nil)) pa_nil)) (blkOk_by (own := [("old", 8)]) (N := N_useful_ways) (by kernel_rfl)) (fun _ _ _ _ _ => (pg_name (i := 8) sc_useful_ways.nd rfl (Or.inl rfl))) (fun _ _ _ _ _ => (pts_one (pt_val (pe_ix (ix_listK K rfl) (pv 6) (pv 8) (fun _ _ => rfl))))) (fun _ _ _ _ _ => (pe_dget (hu_of hr) (pv 7) (pv 8) (fun _ _ => rfl))))
      (pss_one (ps_lock (ps_ret (pe_tup (pa_cons (pv 11) (pa_cons (pv 10) (pa_cons (pe_lc (own := [("old", 8)]) (g := gName 8) (tt := tYes) (by rfl) sc_useful_ways.nd (pi_keys (pv 7)) (blkOk_by (own := [("old", 8)]) (N := N_useful_ways) (by kernel_rfl)) (fun _ _ _ _ _ => (pg_name (i := 8) sc_useful_ways.nd rfl (Or.inl rfl))) (fun _ _ _ _ _ => pts_nil) (fun _ _ _ _ _ => (pe_ix (ix_listK K rfl) (pv 5) (pv 8) (fun _ _ => rfl)))) pa_nil))))))))))))))), ?_⟩
    have sl : ∀ m, m ≤ 1000000 → m < sizeLine := fun m hm => Nat.lt_of_le_of_lt hm (by decide)
    -- keys, rows
    refine ⟨.ref st, rfl, .ref f, rfl, st, f, F, spf, s0, n0, L, R, rfl, est, hf, caf, h0, by omega, hL5, hR, hmv, fun H1 p1 ka ta ras ks tbl s1 ep ek r3 wi hlen full => ⟨p1, [.ref ka, .ref ta], rfl, .inl (.inl ep), rfl, .ref ka, [.ref ta], rfl, .ref ta, [], rfl, rfl, ?_⟩⟩
    have hmany := wi.many
    have hks1 : 0 < ks.length := (List.getElem?_eq_some_iff.mp wi.one).1
    -- ended
    refine ⟨.ref ka, rfl, ka, rfl, ⟨_, .inl (.inl ek)⟩, fun ea nea => ?_⟩
    refine lc_it (walk_list (K := K) (a := ka) (xs := vi ks)) (fun i G => Same H1 G ∧ G ea = some (.lst (vb ((ks.take i).map fin)))) ⟨same_new nea, upd_same⟩ (fun i G _ hW => .inl (.inl (hW.1 _ _ ek))) (fun i x G1 G1' hi hW hY => ?_) (fun H2 hW => ?_)
    · obtain ⟨sG, eD⟩ := hW
      obtain ⟨rfl, hx⟩ := hY
      obtain ⟨s', hs', rfl⟩ := int_at hx
      rw [List.length_map] at hi
      have sn := wi.lt s' (List.mem_of_getElem? hs')
      have sH := s1.trans sG
      refine ⟨rfl, lcyes ⟨g, G, spg, rfl, sH _ _ hg, cag, .int (s' : Int), rfl, sH _ _ hg, hfin s' G1' _ sn sH fun G2 s2 => ⟨_, s2 _ _ eD, ?_, ?_, ?_⟩⟩⟩
      · rw [List.length_map, List.length_map, List.length_take]
        exact sl _ (by omega)
      · intro b o e
        rw [upd_ne (ne_of_none e nea)]
        exact s2 _ _ (sG _ _ e)
      · rw [upd_same, List.take_add_one, hs', List.map_append]
        exact congrArg (fun z => some (HO.lst z)) (vb_snoc _ _)
    obtain ⟨s2, eea⟩ := hW
    rw [List.length_map, List.take_of_length_le (Nat.le_refl _)] at eea
    -- leads
    refine ⟨.ref ta, rfl, .ref ea, rfl, ta, ea, ras, tbl, ks.map fin, rfl, r3.same s2, eea, by rw [List.length_map, hlen], by omega, (fun r hr => ⟨by rw [full r hr]; exact hL5, fun v hv => ?_⟩), fun H3 lp ls s3 nlp elp ll hls => ?_⟩
    · obtain ⟨j, hj⟩ := List.mem_iff_getElem?.mp hr
      obtain ⟨c, hc⟩ := List.mem_iff_getElem?.mp hv
      rw [hlen]
      exact (at_num wi hlen ⟨r, hj, hc⟩).2.1
    have ek3 := s3 _ _ (s2 _ _ ek)
    have r33 := r3.same (s2.trans s3)
    have eea3 := s3 _ _ eea
    have sm3 := (s1.trans s2).trans s3
    -- numbers
    refine fun nm nnm => ?_
    have fnm : H nm = none := sm3.free nnm
    have s4 := same_new (o := .dK []) nnm
    refine ⟨.ref ka, rfl, ka, _, rfl, .inl (.inl (.inl (s4 _ _ ek3))), _, rfl, by rw [List.length_map]; omega, by rw [List.length_map]; omega, ?_⟩
    refine for_range (lo := 0) (n := (((vi ks).length : Nat) : Int).toNat) (fun i σ G => (∀ b o, b ≠ nm → H3 b = some o → G b = some o) ∧ G nm = some (.dK (mk (osF ls i))) ∧ ∃ y8, σ = [some (.ref st), some (.ref f), some (.ref g), some (.ref ka), some (.ref ta), some (.ref ea), some (.ref lp), some (.ref nm), y8, none, none, none, none, none, none]) ⟨fun b o n e => s4 _ _ e, upd_same, none, rfl⟩ (fun i σ G1 hi hW => ?_) (fun σ H5 hW => ?_)
    · obtain ⟨fr, en, y8, rfl⟩ := hW
      rw [List.length_map, Int.toNat_natCast] at hi
      have hli := List.getElem?_eq_getElem (l := ls) (i := i) (by omega)
      generalize ls[i]'(by omega) = b at hli
      have e0 : (0 : Int) + (i : Int) = (i : Int) := Int.zero_add _
      have lpn : lp ≠ nm := ne_of_none elp nnm
      refine ⟨.ref lp, rfl, .int (0 + (i : Int)), rfl, lp, _, 0 + (i : Int), .bl b, rfl, rfl, .inl (.inl (fr _ _ lpn elp)), by rw [e0]; exact atI_nat (vb_get hli), b, rfl, ?_⟩
      cases b with
      | true =>
        have nin : i ∉ osF ls i := fun h => Nat.lt_irrefl _ (osF_mem.mp h).1
        have lo : (osF ls i).length ≤ i := by
          have := List.length_filter_le (fun j => decide (ls[j]? = some true)) (List.range i)
          rw [List.length_range] at this
          exact this
        have ep : putK (mk (osF ls i)) (Sum.inl (0 + (i : Int)) : Key) (V.int ((mk (osF ls i)).length : Int)) = mk (osF ls (i + 1)) := by
          unfold putK
          rw [e0, valV_any, valV_mk, if_neg nin, if_neg (by decide), osF_succ, if_pos hli, mk_snoc, mk_len]
        refine iteT ⟨.ref nm, rfl, nm, _, rfl, en, .ref nm, rfl, .int (0 + (i : Int)), rfl, nm, _, rfl, DPut.k (k := Sum.inl (0 + (i : Int))) en (by rw [mk_len]; exact sl _ (by omega)), ?_⟩
        rw [ep]
        exact ⟨fun b o n e => by rw [upd_ne n]; exact fr b o n e, upd_same, _, rfl⟩
      | false =>
        refine iteF ⟨fr, ?_, _, rfl⟩
        rw [osF_succ, if_neg (by rw [hli]; simp)]
        exact en
    obtain ⟨fr5, en5, y8, rfl⟩ := hW
    rw [List.length_map, Int.toNat_natCast] at en5
    generalize hos : osF ls ks.length = os at en5
    have omem : ∀ j, j ∈ os ↔ ls[j]? = some true := fun j => by
      rw [← hos, osF_mem]
      exact ⟨fun h => h.2, fun h => ⟨by have := (List.getElem?_eq_some_iff.mp h).1; omega, h⟩⟩
    have ond : os.Nodup := hos ▸ osF_nd ls _
    have olt : ∀ j ∈ os, j < ks.length := fun j h => by
      rw [← hos] at h
      exact (osF_mem.mp h).1
    have olen : os.length ≤ ks.length := by
      have := len_le_of_sub ond fun x hx => List.mem_range.mpr (olt x hx)
      rwa [List.length_range] at this
    have ne3 : ∀ {b : Addr} {o : HO}, H3 b = some o → b ≠ nm := fun e => ne_of_none e nnm
    have sm5 : Same H H5 := fun b o e => fr5 b o (ne_of_none e fnm) (sm3 _ _ e)
    have ek5 := fr5 _ _ (ne3 ek3) ek3
    have elp5 := fr5 _ _ (ne3 elp) elp
    have eea5 := fr5 _ _ (ne3 eea3) eea3
    have est5 := sm5 _ _ est
    have r35 : R3At H5 ta ras tbl := ⟨fr5 _ _ (ne3 r33.1) r33.1, r33.2.1, fun i ra row x y => by
      obtain ⟨gas, a, b, c⟩ := r33.2.2 i ra row x y
      exact ⟨gas, fr5 _ _ (ne3 a) a, b, fun k ga v e1 e2 => fr5 _ _ (ne3 (c k ga v e1 e2)) (c k ga v e1 e2)⟩⟩
    clear fr5
    have hrl := r35.2.1
    -- width
    have ht0 := List.getElem?_eq_getElem (l := tbl) (i := 0) (by omega)
    have hr0 := List.getElem?_eq_getElem (l := ras) (i := 0) (by omega)
    have hl0 := full _ (List.getElem_mem (l := tbl) (n := 0) (by omega))
    generalize tbl[0]'(by omega) = row0 at ht0 hl0
    generalize ras[0]'(by omega) = ra0 at hr0
    obtain ⟨gas0, eg0, lg0, _⟩ := r35.2.2 0 ra0 row0 hr0 ht0
    have lw : (vr gas0).length = L := by rw [List.length_map, lg0, hl0]
    refine ⟨.ref ta, rfl, ta, _, 0, .ref ra0, rfl, rfl, .inl (.inl r35.1), atI_nat (j := 0) (vr_get hr0), ra0, _, rfl, .inl (.inl (.inl eg0)), ?_⟩
    -- ways
    refine ⟨nm, .dK (mk os), en5, trivial, fun od => ?_⟩
    have nmk : ∀ {b : Addr} {xs : List V}, H5 b = some (.lst xs) → b ≠ nm := fun e => ne_of e en5 (by intro z; cases z)
    have lk : ∀ b xs, H5 b = some (.lst xs) → (upd H5 nm (.frz od (.dK (mk os)))) b = some (.lst xs) := fun b xs e => by
      rw [upd_ne (nmk e)]
      exact e
    have enL : (upd H5 nm (.frz od (.dK (mk os)))) nm = some (.frz od (.dK (mk os))) := upd_same
    have smL : Same H (upd H5 nm (.frz od (.dK (mk os)))) := fun b o e => by
      rw [upd_ne (ne_of_none e fnm)]
      exact sm5 _ _ e
    have elpL := lk _ _ elp5
    have eeaL := lk _ _ eea5
    have r3L : R3At (upd H5 nm (.frz od (.dK (mk os)))) ta ras tbl := ⟨lk _ _ r35.1, r35.2.1, fun i ra row x y => by
      obtain ⟨gas, a, b, c⟩ := r35.2.2 i ra row x y
      exact ⟨gas, lk _ _ a, b, fun k ga v e1 e2 => lk _ _ (c k ga v e1 e2)⟩⟩
    have ekL := lk _ _ ek5
    have estL := lk _ _ est5
    generalize upd H5 nm (.frz od (.dK (mk os))) = HL at enL smL elpL eeaL r3L ekL estL
    refine ⟨_, rfl, _, rfl, by rw [lw]; omega, by rw [lw]; omega, fun wa nwa => ?_⟩
    rw [lw]
    let cell : Nat → Nat → List Nat := fun j c => if ls[(tbl.getD j []).getD c 0]? = some true then [os.idxOf ((tbl.getD j []).getD c 0)] else []
    refine lc_range (lo := 0) (n := ((L : Nat) : Int).toNat) (fun c G => Same HL G ∧ ∃ cas : List Addr, G wa = some (.lst (vr cas)) ∧ cas.length = c ∧ ∀ (c : Nat) (ca : Addr), cas[c]? = some ca → ca ≠ wa ∧ ∃ xs : List Addr, (∀ x ∈ xs, x ≠ wa) ∧ G ca = some (.lst (vr xs)) ∧ xs.length = os.length ∧ ∀ (i : Nat) (x : Addr) (j : Nat), xs[i]? = some x → os[i]? = some j → G x = some (.lst (vi (cell j c)))) ⟨same_new nwa, [], upd_same, rfl, fun c ca e => by simp at e⟩ (fun c G1 hc hW => ?_) (fun H6 hW => ?_)
    · obtain ⟨sG, cas, ew, lc, cc⟩ := hW
      rw [Int.toNat_natCast] at hc
      have e0c : (0 : Int) + (c : Int) = (c : Int) := Int.zero_add _
      refine ⟨rfl, lcyes ?_⟩
      refine ⟨.ref nm, rfl, nm, od, rfl, .inl ⟨mk os, sG _ _ enL, fun D2 nD2 => ?_⟩⟩
      have waD : wa ≠ D2 := ne_of_none ew nD2
      refine lc_it (walk_keys (d := nm) (o := od) (kvs := mk os)) (fun k G => Same G1 G ∧ ∃ xs : List Addr, (∀ x ∈ xs, x ≠ wa ∧ x ≠ D2) ∧ G D2 = some (.lst (vr xs)) ∧ xs.length = k ∧ ∀ (i : Nat) (x : Addr) (j : Nat), xs[i]? = some x → os[i]? = some j → G x = some (.lst (vi (cell j c)))) ⟨same_new nD2, [], (fun _ h => nomatch h), upd_same, rfl, fun i x j e => by simp at e⟩ (fun k G _ hW => hW.1 _ _ (sG _ _ enL)) (fun k x G2 G2' hk hW hY => ?_) (fun G2 hW => ?_)
      · obtain ⟨s2', xs, nx, eD2, lx, cx⟩ := hW
        obtain ⟨rfl, kk, kv, hkv, rfl⟩ := hY
        obtain ⟨j, hj, rfl, _⟩ := mk_at hkv
        rw [mk_len] at hk
        have hjn := olt j (List.mem_of_getElem? hj)
        have sLG := sG.trans s2'
        have htj := List.getElem?_eq_getElem (l := tbl) (i := j) (by omega)
        have hrj := List.getElem?_eq_getElem (l := ras) (i := j) (by omega)
        have hlj := full _ (List.getElem_mem (l := tbl) (n := j) (by omega))
        have gdj : tbl.getD j [] = tbl[j]'(by omega) := by rw [List.getD_eq_getElem?_getD, htj]; rfl
        generalize tbl[j]'(by omega) = row at htj hlj gdj
        generalize ras[j]'(by omega) = ra at hrj
        obtain ⟨gas, eg, lg, cg⟩ := r3L.2.2 j ra row hrj htj
        have hgc := List.getElem?_eq_getElem (l := gas) (i := c) (by omega)
        have hvc := List.getElem?_eq_getElem (l := row) (i := c) (by omega)
        have gdc : row.getD c 0 = row[c]'(by omega) := by rw [List.getD_eq_getElem?_getD, hvc]; rfl
        generalize gas[c]'(by omega) = ga at hgc
        generalize row[c]'(by omega) = v at hvc gdc
        have ega := cg c ga v hgc hvc
        have hvn := (at_num wi hlen ⟨row, htj, hvc⟩).2.1
        have hcell : cell j c = if ls[v]? = some true then [os.idxOf v] else [] := by
          show (if ls[(tbl.getD j []).getD c 0]? = some true then [os.idxOf ((tbl.getD j []).getD c 0)] else []) = _
          rw [gdj, gdc]
        refine ⟨rfl, lcyes ?_⟩
        refine ⟨.ref ta, rfl, .int (j : Int), rfl, ta, _, (j : Int), .ref ra, rfl, rfl, .inl (.inl (sLG _ _ r3L.1)), atI_nat (vr_get hrj), .int (0 + (c : Int)), rfl, ra, _, 0 + (c : Int), .ref ga, rfl, rfl, .inl (.inl (sLG _ _ eg)), by rw [e0c]; exact atI_nat (vr_get hgc), ga, rfl, ⟨_, .inl (.inl (sLG _ _ ega))⟩, fun D3 nD3 => ?_⟩
        have s3' := same_new (o := .lst []) nD3
        refine lc_it (walk_list (K := K) (a := ga) (xs := vi [v])) (fun i G => G = upd G2' D3 (.lst (vi (if i = 0 then [] else cell j c)))) rfl (fun i G _ hW => by rw [hW]; exact .inl (.inl (same_new nD3 _ _ (sLG _ _ ega)))) (fun i x G3 G3' hi hW hY => ?_) (fun G3 hW => ?_)
        · subst hW
          obtain ⟨rfl, hx⟩ := hY
          have hi : i < 1 := hi
          obtain rfl : i = 0 := by omega
          have hx : some (V.int (v : Int)) = some x := hx
          cases hx
          rw [if_pos rfl]
          have hlv := List.getElem?_eq_getElem (l := ls) (i := v) (by omega)
          generalize ls[v]'(by omega) = b at hlv
          refine ⟨rfl, .ref lp, rfl, .int (v : Int), rfl, lp, _, (v : Int), .bl b, rfl, rfl, .inl (.inl (s3' _ _ (sLG _ _ elpL))), atI_nat (vb_get hlv), b, rfl, ?_⟩
          cases b with
          | true =>
            have hvo : v ∈ os := (omem v).mpr hlv
            refine iteT ⟨.ref nm, rfl, .int (v : Int), rfl, nm, .int (os.idxOf v : Nat), rfl, ?_, _, upd_same, by show 0 < sizeLine; decide, ?_⟩
            · refine .inl ⟨mk os, Sum.inl (v : Int), .inr ⟨od, s3' _ _ (sLG _ _ enL)⟩, rfl, ?_⟩
              rw [valV_mk, if_pos hvo]
            · rw [upd_upd, if_neg (by decide), hcell, if_pos hlv]
              rfl
          | false =>
            refine iteF ?_
            rw [if_neg (show ¬ 0 + 1 = 0 by decide), hcell, if_neg (by rw [hlv]; simp)]
        · have hW : G3 = upd G2' D3 (.lst (vi (if 1 = 0 then [] else cell j c))) := hW
          rw [if_neg (by decide)] at hW
          subst hW
          have s4' := same_new (o := .lst (vi (cell j c))) nD3
          have eD23 : (upd G2' D3 (.lst (vi (cell j c)))) D2 = some (.lst (vr xs)) := s4' _ _ eD2
          have D23 : D2 ≠ D3 := ne_of_none eD2 nD3
          have wa3 : wa ≠ D3 := ne_of_none (s2' _ _ ew) nD3
          refine ⟨vr xs, eD23, by rw [List.length_map]; exact sl _ (by omega), ?_, xs ++ [D3], mem_snoc nx ⟨wa3.symm, D23.symm⟩, by rw [upd_same, vr_snoc], by rw [List.length_append, lx]; rfl, fun i x j' e1 e2 => ?_⟩
          · intro b o e
            rw [upd_ne (ne_of_none e nD2)]
            exact s4' _ _ (s2' _ _ e)
          · by_cases hi : i < xs.length
            · rw [List.getElem?_append_left hi] at e1
              rw [upd_ne (nx x (List.mem_of_getElem? e1)).2]
              exact s4' _ _ (cx i x j' e1 e2)
            · rw [List.getElem?_append_right (by omega)] at e1
              have h0 : i - xs.length = 0 := by
                cases q : i - xs.length with
                | zero => rfl
                | succ k =>
                  rw [q] at e1
                  simp at e1
              rw [h0] at e1
              cases e1
              have : i = k := by omega
              subst this
              rw [hj] at e2
              cases e2
              rw [upd_ne D23.symm, upd_same]
      · obtain ⟨s2', xs, nx, eD2, lx, cx⟩ := hW
        rw [mk_len] at lx
        have ew2 := s2' _ _ ew
        refine ⟨vr cas, ew2, by rw [List.length_map]; exact sl _ (by omega), ?_, cas ++ [D2], by rw [upd_same, vr_snoc], by rw [List.length_append, lc]; rfl, fun c' ca e => ?_⟩
        · intro b o e
          rw [upd_ne (ne_of_none e nwa)]
          exact s2' _ _ (sG _ _ e)
        · by_cases hi : c' < cas.length
          · rw [List.getElem?_append_left hi] at e
            obtain ⟨n1, xs', n2, e1, l1, c1⟩ := cc c' ca e
            exact ⟨n1, xs', n2, by rw [upd_ne n1]; exact s2' _ _ e1, l1, fun i x j x1 x2 => by rw [upd_ne (n2 x (List.mem_of_getElem? x1))]; exact s2' _ _ (c1 i x j x1 x2)⟩
          · rw [List.getElem?_append_right (by omega)] at e
            have h0 : c' - cas.length = 0 := by
              cases q : c' - cas.length with
              | zero => rfl
              | succ k =>
                rw [q] at e
                simp at e
            rw [h0] at e
            cases e
            have : c' = c := by omega
            subst this
            exact ⟨waD.symm, xs, fun x hx => (nx x hx).1, by rw [upd_ne waD.symm]; exact eD2, lx, fun i x j x1 x2 => by rw [upd_ne (nx x (List.mem_of_getElem? x1)).1]; exact cx i x j x1 x2⟩
    · obtain ⟨sL6, cas, ew, lc, cc⟩ := hW
      rw [Int.toNat_natCast] at lc
      refine ⟨sL6 _ _ enL, ?_⟩
      have en6 := sL6 _ _ enL
      have ul : ∀ b xs, H6 b = some (.lst xs) → (upd H6 nm (.dK (mk os))) b = some (.lst xs) := fun b xs e => by
        rw [upd_ne (ne_of e en6 (by intro z; cases z))]
        exact e
      have sm7 : Same H (upd H6 nm (.dK (mk os))) := fun b o e => by
        rw [upd_ne (ne_of_none e fnm)]
        exact sL6 _ _ (smL _ _ e)
      have en7 : (upd H6 nm (.dK (mk os))) nm = some (.dK (mk os)) := upd_same
      have ew7 := ul _ _ ew
      have cc7 : ∀ (c : Nat) (ca : Addr), cas[c]? = some ca → ∃ xs : List Addr, (upd H6 nm (.dK (mk os))) ca = some (.lst (vr xs)) ∧ xs.length = os.length ∧ ∀ (i : Nat) (x : Addr) (j : Nat), xs[i]? = some x → os[i]? = some j → (upd H6 nm (.dK (mk os))) x = some (.lst (vi (cell j c))) := fun c ca e => by
        obtain ⟨_, xs, _, e1, l1, c1⟩ := cc c ca e
        exact ⟨xs, ul _ _ e1, l1, fun i x j x1 x2 => ul _ _ (c1 i x j x1 x2)⟩
      have elp7 := ul _ _ (sL6 _ _ elpL)
      have eea7 := ul _ _ (sL6 _ _ eeaL)
      have est7 := ul _ _ (sL6 _ _ estL)
      generalize upd H6 nm (.dK (mk os)) = H7 at sm7 en7 ew7 cc7 elp7 eea7 est7
      -- firsts
      refine ⟨.ref st, rfl, st, _, rfl, .inl (.inl (.inl est7)), _, rfl, by show _ ≤ (1 : Int); decide, by show (1 : Int) < _; decide, fun fa nfa => ?_⟩
      have sfa := same_new (o := .lst []) nfa
      have hl_0 := List.getElem?_eq_getElem (l := ls) (i := 0) (by omega)
      generalize ls[0]'(by omega) = b0 at hl_0
      refine lc_range (lo := 0) (n := 1) (fun i G => G = upd H7 fa (.lst (vi (if i = 0 then [] else if b0 = true then [os.idxOf 0] else [])))) rfl (fun i G1 hi hW => ?_) (fun H8 hW => ?_)
      · subst hW
        obtain rfl : i = 0 := by omega
        rw [if_pos rfl]
        refine ⟨rfl, .ref lp, rfl, .int (0 + ((0 : Nat) : Int)), rfl, lp, _, 0 + ((0 : Nat) : Int), .bl b0, rfl, rfl, .inl (.inl (sfa _ _ elp7)), by rw [Int.zero_add]; exact atI_nat (vb_get hl_0), b0, rfl, ?_⟩
        cases b0 with
        | true =>
          refine iteT ⟨.ref nm, rfl, .int (0 + ((0 : Nat) : Int)), rfl, nm, .int (os.idxOf 0 : Nat), rfl, ?_, _, upd_same, by show 0 < sizeLine; decide, ?_⟩
          · have := DGet.k (k := Sum.inl ((0 : Nat) : Int)) (sfa _ _ en7)
            rw [valV_mk, if_pos ((omem 0).mpr hl_0)] at this
            exact this
          · rw [upd_upd]
            rfl
        | false => exact iteF rfl
      have hW : H8 = upd H7 fa (.lst (vi (if 1 = 0 then [] else if b0 = true then [os.idxOf 0] else []))) := hW
      rw [if_neg (by decide)] at hW
      have s78 : Same H7 H8 := by rw [hW]; exact same_new nfa
      have efa : H8 fa = some (.lst (vi (if b0 = true then [os.idxOf 0] else []))) := by rw [hW]; exact upd_same
      -- the tuple
      have en8 := s78 _ _ en7
      refine ⟨nm, .dK (mk os), en8, trivial, fun od2 => ?_⟩
      have lk8 : ∀ b xs, H8 b = some (.lst xs) → (upd H8 nm (.frz od2 (.dK (mk os)))) b = some (.lst xs) := fun b xs e => by
        rw [upd_ne (ne_of e en8 (by intro z; cases z))]
        exact e
      have en9 : (upd H8 nm (.frz od2 (.dK (mk os)))) nm = some (.frz od2 (.dK (mk os))) := upd_same
      have sm9 : Same H (upd H8 nm (.frz od2 (.dK (mk os)))) := fun b o e => by
        rw [upd_ne (ne_of_none e fnm)]
        exact s78 _ _ (sm7 _ _ e)
      have efa9 := lk8 _ _ efa
      have ew9 := lk8 _ _ (s78 _ _ ew7)
      have eea9 := lk8 _ _ (s78 _ _ eea7)
      have cc9 : ∀ (c : Nat) (ca : Addr), cas[c]? = some ca → ∃ xs : List Addr, (upd H8 nm (.frz od2 (.dK (mk os)))) ca = some (.lst (vr xs)) ∧ xs.length = os.length ∧ ∀ (i : Nat) (x : Addr) (j : Nat), xs[i]? = some x → os[i]? = some j → (upd H8 nm (.frz od2 (.dK (mk os)))) x = some (.lst (vi (cell j c))) := fun c ca e => by
        obtain ⟨xs, e1, l1, c1⟩ := cc7 c ca e
        exact ⟨xs, lk8 _ _ (s78 _ _ e1), l1, fun i x j x1 x2 => lk8 _ _ (s78 _ _ (c1 i x j x1 x2))⟩
      generalize upd H8 nm (.frz od2 (.dK (mk os))) = H9 at en9 sm9 efa9 ew9 eea9 cc9
      refine ⟨.ref fa, rfl, .ref wa, rfl, .ref nm, rfl, nm, od2, rfl, .inl ⟨mk os, en9, fun D nD => ?_⟩⟩
      refine lc_it (walk_keys (d := nm) (o := od2) (kvs := mk os)) (fun i G => Same H9 G ∧ G D = some (.lst (vb ((os.take i).map fun j => fin (ks.getD j 0))))) ⟨same_new nD, upd_same⟩ (fun i G _ hW => hW.1 _ _ en9) (fun i x G1 G1' hi hW hY => ?_) (fun HA hW => ?_)
      · obtain ⟨sG, eD⟩ := hW
        obtain ⟨rfl, kk, kv, hkv, rfl⟩ := hY
        obtain ⟨j, hj, rfl, _⟩ := mk_at hkv
        rw [mk_len] at hi
        have hjn := olt j (List.mem_of_getElem? hj)
        have hbj : (ks.map fin)[j]? = some (fin (ks.getD j 0)) := by rw [List.getElem?_map, num_at hjn]; rfl
        refine ⟨rfl, lcyes ⟨.ref ea, rfl, .int (j : Int), rfl, ea, _, (j : Int), .bl (fin (ks.getD j 0)), rfl, rfl, .inl (.inl (sG _ _ eea9)), atI_nat (vb_get hbj), _, eD, ?_, ?_, ?_⟩⟩
        · rw [List.length_map, List.length_map, List.length_take]
          exact sl _ (by omega)
        · intro b o e
          rw [upd_ne (ne_of_none e nD)]
          exact sG _ _ e
        · rw [upd_same, List.take_add_one, hj, List.map_append]
          exact congrArg (fun z => some (HO.lst z)) (vb_snoc _ _)
      obtain ⟨s9A, eD⟩ := hW
      rw [mk_len, List.take_of_length_le (Nat.le_refl _)] at eD
      refine ⟨by show 3 ≤ sizeLine; decide, fun p np => ?_⟩
      have sAB := same_new (o := .tup [.ref fa, .ref wa, .ref D]) np
      have enB := sAB _ _ (s9A _ _ en9)
      refine ⟨enB, ?_⟩
      have ulB : ∀ b xs, HA b = some (.lst xs) → (upd (upd HA p (.tup [.ref fa, .ref wa, .ref D])) nm (.dK (mk os))) b = some (.lst xs) := fun b xs e => by
        rw [upd_ne (ne_of e (s9A _ _ en9) (by intro z; cases z))]
        exact sAB _ _ e
      have pn : p ≠ nm := fun e => by
        rw [e, s9A _ _ en9] at np
        cases np
      have leadS : ∀ {j : Nat}, j < ks.length → (j ∈ os ↔ LdS R fin (ks.getD j 0)) := fun hj => by
        rw [omem, hls, lead_iff wi hlen full hR hj]
      refine q _ p fa wa D (os.map fun j => ks.getD j 0) ?_ ?_ ?_ ?_ ?_ ?_
      · intro b o e
        rw [upd_ne (ne_of_none e fnm)]
        exact sAB _ _ (s9A _ _ (sm9 _ _ e))
      · rw [upd_ne pn, upd_same]
      · have i0 := idx_map wi.nd olt hks1
        have e0 : ks.getD 0 0 = s0 := by
          have := num_at hks1
          rw [wi.one] at this
          exact (Option.some.inj this).symm
        rw [e0] at i0
        rw [ulB _ _ (s9A _ _ efa9), i0.1]
        congr 3
        by_cases hb : b0 = true
        · rw [if_pos hb, if_pos (i0.2.mpr ((omem 0).mpr (by rw [hl_0, hb])))]
        · rw [if_neg hb, if_neg fun h => hb (by
            have := (omem 0).mp (i0.2.mp h)
            rw [hl_0] at this
            exact Option.some.inj this)]
      · refine ⟨cas, ulB _ _ (s9A _ _ ew9), lc, fun c ca e => ?_⟩
        obtain ⟨xs, e1, l1, c1⟩ := cc9 c ca e
        refine ⟨xs, ulB _ _ (s9A _ _ e1), by rw [List.length_map]; exact l1, fun i x s t x1 x2 x3 => ?_⟩
        rw [List.getElem?_map] at x2
        obtain ⟨j, hj, rfl⟩ := Option.map_eq_some_iff.mp x2
        have hjn := olt j (List.mem_of_getElem? hj)
        have htj := List.getElem?_eq_getElem (l := tbl) (i := j) (by omega)
        have hlj := full _ (List.getElem_mem (l := tbl) (n := j) (by omega))
        have gdj : tbl.getD j [] = tbl[j]'(by omega) := by rw [List.getD_eq_getElem?_getD, htj]; rfl
        generalize tbl[j]'(by omega) = row at htj hlj gdj
        have hcl : c < L := by
          have := (List.getElem?_eq_some_iff.mp e).1
          omega
        have hvc := List.getElem?_eq_getElem (l := row) (i := c) (by omega)
        have gdc : row.getD c 0 = row[c]'(by omega) := by rw [List.getD_eq_getElem?_getD, hvc]; rfl
        generalize row[c]'(by omega) = v at hvc gdc
        obtain ⟨_, hvn, hRc⟩ := at_num wi hlen ⟨row, htj, hvc⟩
        rw [x3] at hRc
        cases hRc
        rw [ulB _ _ (s9A _ _ (c1 i x j x1 hj))]
        have hcell : cell j c = if ls[v]? = some true then [os.idxOf v] else [] := by
          show (if ls[(tbl.getD j []).getD c 0]? = some true then [os.idxOf ((tbl.getD j []).getD c 0)] else []) = _
          rw [gdj, gdc]
        obtain ⟨i1, i2⟩ := idx_map wi.nd olt hvn
        rw [hcell, i1]
        congr 3
        by_cases hb : ls[v]? = some true
        · rw [if_pos hb, if_pos (i2.mpr ((omem v).mpr hb))]
        · rw [if_neg hb, if_neg fun h => hb ((omem v).mp (i2.mp h))]
      · rw [ulB _ _ eD, List.map_map]
        rfl
      · refine ⟨List.pairwise_map.mpr (ond.imp_of_mem fun {a b} ha hb ne e => ne (num_inj wi.nd (olt a ha) (olt b hb) e)), fun s hs => ?_, fun s => ?_⟩
        · obtain ⟨j, hj, rfl⟩ := List.mem_map.mp hs
          exact wi.lt _ (List.mem_of_getElem? (num_at (olt j hj)))
        · rw [← rch_mem wi hlen full hR]
          constructor
          · intro h
            obtain ⟨j, hj, rfl⟩ := List.mem_map.mp h
            exact ⟨List.mem_of_getElem? (num_at (olt j hj)), (leadS (olt j hj)).mp hj⟩
          · rintro ⟨h1, h2⟩
            obtain ⟨j, hj⟩ := List.mem_iff_getElem?.mp h1
            have hjl := (List.getElem?_eq_some_iff.mp hj).1
            rw [num_at hjl] at hj
            cases hj
            exact List.mem_map.mpr ⟨j, (leadS hjl).mpr h2, rfl⟩
end
end LH

namespace LH
open PySem PySem.Spec PyProof.Rows L2 NdefX LamX
/-! ### ways_of -/
abbrev st_movesY : Stmt := (defBody s_ways_of).getD 2 (.Pass ⟨0, 0, 0, 0⟩)
abbrev st_is_endY : Stmt := (defBody s_ways_of).getD 3 (.Pass ⟨0, 0, 0, 0⟩)
abbrev q_movesY : Str := (("ways_of" : Str) ++ ".<locals>.") ++ "moves"
abbrev q_is_endY : Str := (("ways_of" : Str) ++ ".<locals>.") ++ "is_end"
abbrev nf_movesY (cl : List (Str × Addr)) (c : Addr) : NF := NF.of st_movesY "moves" q_movesY cl c
abbrev nf_is_endY (cl : List (Str × Addr)) (c : Addr) : NF := NF.of st_is_endY "is_end" q_is_endY cl c
abbrev N_movesY : List Str := ["state", "table", "target"]
theorem nd_movesY : N_movesY.Nodup := by decide +kernel
theorem free_movesY : ∀ y ∈ (C8.fnScope st_movesY).names, y.2 = .free → (defScope s_ways_of).names.lookup y.1 = some .cell ∨ (defScope s_ways_of).names.lookup y.1 = some .free := by decide +kernel
theorem free_is_endY : ∀ y ∈ (C8.fnScope st_is_endY).names, y.2 = .free → (defScope s_ways_of).names.lookup y.1 = some .cell ∨ (defScope s_ways_of).names.lookup y.1 = some .free := by decide +kernel
def nm_ways_of : Nat → Nat → Str := fun l _ => if l = lineOf st_movesY then q_movesY else q_is_endY
abbrev xY (P : Program) (w : World) (K : PySem.W.Frag) (mg : Str → Option Value) (base : Heap) (f c : Addr) (A : Around) (outer : List Env) (s : Shared) (H : Hp) (E : XK) : Cx := (cxOf CX0 P w K mg base N_ways_of "ways_of" (defScope s_ways_of) f (.ref c) A outer s H E).nox
section
variable {P : Program} {w : World} {K : PySem.W.Frag} {mg : Str → Option Value} {base : Heap}
def sp_movesY : List (Option V) → Sp := fun ws vs H Q _ => ∃ (t a : Addr) (as : List Addr) (s : Nat) (row : List Nat), ws = [some (.ref t)] ∧ vs = [.int (s : Int)] ∧ H t = some (.tup (vr as)) ∧ as[s]? = some a ∧ H a = some (.tup (vi row)) ∧ row.length ≤ 1000 ∧
  ∀ H' b (gas : List Addr), Same H H' → H b = none → H' b = some (.lst (vr gas)) → gas.length = row.length → (∀ ga ∈ gas, H ga = none) → (∀ (c : Nat) (ga : Addr) (t : Nat), gas[c]? = some ga → row[c]? = some t → H' ga = some (.lst (vi [t]))) → Q (.ref b) H'
theorem ok_movesY {f c : Addr} {cl : List (Str × Addr)} : NOk P w K mg base CX0 1 f (nf_movesY cl c) ["state"] ["table"] sp_movesY := by
  refine nok_of (N := N_movesY) (nscope_by (by kernel_rfl)) (fun doc pm ctv us hl => match us, hl with | [_], _ => rfl) (fun ws vs H Q E h => ?_) (fun A outer s H vs ws Q E hr hf hc hl h => ?_)
  · obtain ⟨t, a, as, s', row, rfl, rfl, _⟩ := h
    rfl
  · obtain ⟨t, a, as, s', row, rfl, rfl, ht, ha, er, hl2, q⟩ := h
    refine ⟨_, PSs.nox (pss_one (ps_ret (pe_lc (own := [("target", 2)]) (g := gName 2) (tt := tYes) (by rfl) nd_movesY (pi_tupK K rfl (pe_ix (ix_tupK K rfl) (pv 1) (pv 0) (fun _ _ => rfl))) (blkOk_by (own := [("target", 2)]) (N := N_movesY) (by kernel_rfl)) (fun _ _ _ _ _ => (pg_name (i := 2) nd_movesY rfl (Or.inl rfl))) (fun _ _ _ _ _ => pts_nil) (fun _ _ _ _ _ => (pe_lst (pa_cons (pv 2) pa_nil)))))), ?_⟩
    refine ⟨.ref t, rfl, .int (s' : Int), rfl, t, _, (s' : Int), .ref a, rfl, rfl, .inl (.inl ht), atI_nat (vr_get ha), a, rfl, ⟨_, .inl (.inl er)⟩, fun D nD => ?_⟩
    refine lc_it (walk_tup (K := K) (a := a) (xs := vi row)) (fun i G => Same H G ∧ ∃ gas : List Addr, (∀ ga ∈ gas, ga ≠ D ∧ H ga = none) ∧ G D = some (.lst (vr gas)) ∧ gas.length = i ∧ ∀ (c : Nat) (ga : Addr) (t : Nat), gas[c]? = some ga → row[c]? = some t → G ga = some (.lst (vi [t]))) ⟨same_new nD, [], (fun _ h => nomatch h), upd_same, rfl, fun c ga t e => by simp at e⟩ (fun i G _ hW => .inl (.inl (hW.1 _ _ er))) (fun i x G G' hi hW hY => ?_) (fun G hW => ?_)
    · obtain ⟨sG, gas, ng, eD, lg, cg⟩ := hW
      obtain ⟨rfl, hx⟩ := hY
      obtain ⟨u, hu, rfl⟩ := int_at hx
      rw [List.length_map] at hi
      refine ⟨rfl, lcyes ⟨.int (u : Int), rfl, by show 1 ≤ sizeLine; decide, fun g ng2 => ?_⟩⟩
      have s2 := same_new (o := .lst [.int (u : Int)]) ng2
      have Dg : D ≠ g := ne_of_none eD ng2
      have fg : H g = none := sG.free ng2
      refine ⟨vr gas, s2 _ _ eD, ?_, ?_, gas ++ [g], mem_snoc ng ⟨Dg.symm, fg⟩, by rw [upd_same, vr_snoc], by rw [List.length_append, lg]; rfl, fun c ga t' e1 e2 => ?_⟩
      · rw [List.length_map, lg]
        exact Nat.lt_of_le_of_lt (show i ≤ 1000 by omega) (by decide)
      · intro b o eb
        rw [upd_ne (ne_of_none eb nD)]
        exact s2 _ _ (sG _ _ eb)
      · by_cases hc : c < gas.length
        · rw [List.getElem?_append_left hc] at e1
          rw [upd_ne (ng ga (List.mem_of_getElem? e1)).1]
          exact s2 _ _ (cg c ga t' e1 e2)
        · have hc2 := (List.getElem?_eq_some_iff.mp e1).1
          rw [List.length_append] at hc2
          have hc2 : c < gas.length + 1 := hc2
          obtain rfl : c = gas.length := by omega
          rw [List.getElem?_append_right (Nat.le_refl _), Nat.sub_self] at e1
          cases e1
          rw [lg, hu] at e2
          cases e2
          rw [upd_ne Dg.symm, upd_same]
          rfl
    · obtain ⟨sG, gas, ng, eD, lg, cg⟩ := hW
      rw [List.length_map] at lg
      exact q G D gas sG nD eD lg (fun ga h => (ng ga h).2) cg
def sp_is_endY : List (Option V) → Sp := fun ws vs H Q _ => ∃ (mk : Addr) (bs : List Bool) (b : Bool) (s : Nat), ws = [some (.ref mk)] ∧ vs = [.int (s : Int)] ∧ H mk = some (.lst (bs.map V.bl)) ∧ bs[s]? = some b ∧ Q (.bl b) H
theorem ok_is_endY {f c : Addr} {cl : List (Str × Addr)} : NOk P w K mg base CX0 1 f (nf_is_endY cl c) ["state"] ["marks"] sp_is_endY := by
  refine nok_of (N := ["state", "marks"]) (nscope_by (by kernel_rfl)) (fun doc pm ctv us hl => match us, hl with | [_], _ => rfl) (fun ws vs H Q E h => ?_) (fun A outer s H vs ws Q E hr hf hc hl h => ?_)
  · obtain ⟨mk, bs, b, s', rfl, rfl, _⟩ := h
    rfl
  · obtain ⟨mk, bs, b, s', rfl, rfl, hm, hb, q⟩ := h
    refine ⟨_, PSs.nox (pss_one (ps_ret (pe_ix (ix_listK K rfl) (pv 1) (pv 0) (fun _ _ => rfl)))), ?_⟩
    exact ⟨.ref mk, rfl, .int (s' : Int), rfl, mk, _, (s' : Int), .bl b, rfl, rfl, .inl (.inl hm), atI_nat (vb_get hb), q⟩
theorem cap_fY {f c : Addr} {A : Around} {outer : List Env} {s : Shared} {H : Hp} {E : XK} (ok : (xY P w K mg base f c A outer s H E).Ok) : Caps (xY P w K mg base f c A outer s H E) (cloFrom (xY P w K mg base f c A outer s H E).env.cells (C8.fnScope st_movesY).names []) ["table"] [2] := Caps.made ok free_movesY (by decide +kernel) rfl
theorem cap_eY {f c : Addr} {A : Around} {outer : List Env} {s : Shared} {H : Hp} {E : XK} (ok : (xY P w K mg base f c A outer s H E).Ok) : Caps (xY P w K mg base f c A outer s H E) (cloFrom (xY P w K mg base f c A outer s H E).env.cells (C8.fnScope st_is_endY).names []) ["marks"] [4] := Caps.made ok free_is_endY (by decide +kernel) rfl
theorem cap_aY {f c : Addr} {A : Around} {outer : List Env} {s : Shared} {H : Hp} {E : XK} : Caps (xY P w K mg base f c A outer s H E) (xY P w K mg base f c A outer s H E).env.cells ["table", "marks"] [2, 4] := ⟨fun _ _ e => e, by
  intro y hy
  simp only [List.mem_cons, List.mem_nil_iff, or_false] at hy
  rcases hy with rfl | rfl
  · exact .inl rfl
  · exact .inl rfl, fun _ _ _ e => e, rfl⟩
abbrev RM (M : Mach) (s : Nat) : List Nat := M.rows.getD s []
abbrev finM (M : Mach) (s : Nat) : Bool := decide (s ∈ M.ends)
def sp_ways_of (tabs : List NTab) : Sp := fun vs H Q _ => ∃ (m : Addr) (M : Mach), vs = [.ref m] ∧ MachAt H m M ∧ M.Ok ∧ M.rows.length ≤ 100000 ∧ TabsN tabs H ∧
  ∀ H' p fa wa ea us, ExtN H H' → TabsN tabs H' → H' p = some (.tup [.ref fa, .ref wa, .ref ea]) → H' fa = some (.lst (vi (if 0 ∈ us then [us.idxOf 0] else []))) → WaysAt H' wa us M.z.length (RM M) → H' ea = some (.lst (vb (us.map (finM M)))) → UsOk (RM M) (finM M) 0 M.rows.length us → Q (.ref p) H'
theorem ok_ways_of (T : TX K mg) {c PT : Addr} {tabs : List NTab} (F : FunC K "ways_of" "ways_of" s_ways_of T.a_ways_of T.fd_ways_of c) (TB : TabB base mg c PT) (hin : (PT, nm_ways_of) ∈ tabs) (huq : ∀ p ∈ tabs, p.1 = PT → p.2 = nm_ways_of) : FnOk P w K mg base CX0 7 T.a_ways_of T.fd_ways_of ["machine"] (sp_ways_of tabs) := by
  have G_end_marks : FnOk P w K mg base CX0 1 T.a_end_marks T.fd_end_marks ["machine"] sp_end_marks := ok_end_marks T
  have G_useful_ways : FnOk P w K mg base CX0 6 T.a_useful_ways T.fd_useful_ways ["starts", "moves", "is_end"] (sp_useful_ways P w K mg base) := ok_useful_ways T
  refine F.ok sc_ways_of (fun vs H Q E h => ?_) (fun A outer s H vs Q E hr h => ?_)
  · obtain ⟨m, M, rfl, _⟩ := h
    rfl
  · obtain ⟨m, M, rfl, mm, k, hbig, tb0, q⟩ := h
    obtain ⟨t, e, as, h1, h2, h3, h4⟩ := id mm
    refine ⟨_, (pss_cons (ps_asg (pv 0) (pg_tupK (n := 3) K rfl (by rfl) (pgs_cons (pg_name (i := 1) sc_ways_of.nd rfl (Or.inl rfl)) (pgs_cons (pg_name (i := 2) sc_ways_of.nd rfl (Or.inr rfl)) (pgs_cons (pg_name (i := 3) sc_ways_of.nd rfl (Or.inl rfl)) pgs_nil)))))
        (pss_cons (ps_set (i := 4) sc_ways_of.nd rfl (Or.inr rfl) (pe_call G_end_marks (hr.mono (by decide)) (by rfl) T.g_end_marks T.F_end_marks.kp T.b_end_marks .nil pass0 (pa_cons (pv 0) pa_nil)))
        (pss_cons (ps_ndefMS (st := st_movesY) (i := 5) rfl TB rfl hin (by kernel_rfl) huq free_movesY rfl rfl rfl sc_ways_of.nd rfl (Or.inl rfl) (Or.inr rfl))
        (pss_cons (ps_ndefMS (st := st_is_endY) (i := 6) rfl TB rfl hin (by kernel_rfl) huq free_is_endY rfl rfl rfl sc_ways_of.nd rfl (Or.inl rfl) (Or.inr rfl))
        (pss_one (ps_ret (pe_callTr G_useful_ways (hr.mono (by decide)) (by rfl) T.g_useful_ways T.F_useful_ways.kp T.b_useful_ways (fun _ => cap_aY) (fun _ => rfl) (pa_cons (pe_lst (pa_cons pe_int pa_nil)) (pa_cons (pv 5) (pa_cons (pv 6) pa_nil)))))))))), ?_⟩
    refine ⟨.ref m, rfl, m, [.str M.z, .ref t, .ref e], rfl, .inl (.inl h1), rfl, .str M.z, _, rfl, .ref t, _, rfl, .ref e, [], rfl, rfl, ?_⟩
    refine ⟨.ref m, rfl, m, M, rfl, mm, k, by omega, fun H1 mk sm1 nmk emk => ?_⟩
    refine ⟨tb0.ext sm1, fun f1 c1 H2 ex2 ng2 tb2 nf1 ef1 ec1 => ?_⟩
    refine ⟨tb2, fun f2 c2 H3 ex3 ng3 tb3 nf2 ef2 ec2 => ?_⟩
    have s13 : ∀ b o, H1 b = some o → (∀ ps, o ≠ .tbl ps) → H3 b = some o := fun b o eb n => ex3 b o (ex2 b o eb n) n
    refine ⟨by show 1 ≤ sizeLine; decide, fun st nst => ?_⟩
    have s34 := same_new (o := .lst [.int (0 : Int)]) nst
    have est : (upd H3 st (.lst [.int (0 : Int)])) st = some (.lst (vi [0])) := upd_same
    refine ⟨.ref f1, rfl, .ref f2, rfl, rfl, fun ok H4 hout hnone CT => ?_⟩
    have f31 : H3 f1 = some (FnO f1 (nf_movesY (cloFrom (xY P w K mg base T.a_ways_of c A outer s H E).env.cells (C8.fnScope st_movesY).names []) c1)) := ex3 f1 _ ef1 fun ps => fnO_ne ps
    have c31 : H3 c1 = some (CodeO c1 q_movesY) := ex3 c1 _ ec1 fun ps => codeO_ne ps
    have f32 : H3 f2 = some (FnO f2 (nf_is_endY (cloFrom (xY P w K mg base T.a_ways_of c A outer s H E).env.cells (C8.fnScope st_is_endY).names []) c2)) := ef2
    have c32 : H3 c2 = some (CodeO c2 q_is_endY) := ec2
    have nin : ∀ b o, (upd H3 st (.lst [.int (0 : Int)])) b = some o → ¬ inC (xY P w K mg base T.a_ways_of c A outer s H E).env.cells b := fun b o eb z => by
      have := hnone b z
      rw [eb] at this
      cases this
    have up4 : ∀ b o, (upd H3 st (.lst [.int (0 : Int)])) b = some o → H4 b = some o := fun b o eb => by
      rw [hout b (nin b o eb)]
      exact eb
    have up : ∀ b o, H3 b = some o → H4 b = some o := fun b o eb => up4 b o (s34 _ _ eb)
    have t4 : H4 t = some (.tup (vr as)) := up _ _ (s13 _ _ (sm1 _ _ h2) (by intro ps z; cases z))
    have k4 : H4 mk = some (.lst ((marksOf M).map V.bl)) := up _ _ (s13 _ _ emk (by intro ps z; cases z))
    have r4 : ∀ (i : Nat) (a : Addr) (row : List Nat), as[i]? = some a → M.rows[i]? = some row → H4 a = some (.tup (vi row)) := fun i a row x y => up _ _ (s13 _ _ (sm1 _ _ (h3.2 i a row x y)) (by intro ps z; cases z))
    have cellE : ∀ b, inC (xY P w K mg base T.a_ways_of c A outer s H E).env.cells b → ∃ o, H4 b = some (CellO b o) := fun b z => by
      obtain ⟨y, hy⟩ := z
      obtain ⟨o, v, z1, _⟩ := CT.all y b hy
      exact ⟨o, z1⟩
    have capF := cap_fY ok
    have capE := cap_eY ok
    have CF : ∀ H' : Hp, Same H4 H' → CellsT H' (cloFrom (xY P w K mg base T.a_ways_of c A outer s H E).env.cells (C8.fnScope st_movesY).names []) ["table"] [some (.ref t)] := fun H' sm => (CT.same fun b o eb => sm _ _ eb).sub capF rfl fun i y hy => by
      match i, hy with
      | 0, hy => exact ⟨0, hy, rfl⟩
      | i + 1, hy => simp at hy
    have CE : ∀ H' : Hp, Same H4 H' → CellsT H' (cloFrom (xY P w K mg base T.a_ways_of c A outer s H E).env.cells (C8.fnScope st_is_endY).names []) ["marks"] [some (.ref mk)] := fun H' sm => (CT.same fun b o eb => sm _ _ eb).sub capE rfl fun i y hy => by
      match i, hy with
      | 0, hy => exact ⟨1, hy, rfl⟩
      | i + 1, hy => simp at hy
    have ca1 := Callable.of ((ok_movesY (P := P) (w := w) (K := K) (mg := mg) (base := base) (f := f1) (c := c1) (cl := cloFrom (xY P w K mg base T.a_ways_of c A outer s H E).env.cells (C8.fnScope st_movesY).names [])).mono (show 1 ≤ 4 by decide))
    have ca2 := Callable.of ((ok_is_endY (P := P) (w := w) (K := K) (mg := mg) (base := base) (f := f2) (c := c2) (cl := cloFrom (xY P w K mg base T.a_ways_of c A outer s H E).env.cells (C8.fnScope st_is_endY).names [])).mono (show 1 ≤ 4 by decide))
    have rowd : ∀ s', s' < M.rows.length → M.rows[s']? = some (RM M s') := fun s' h => by
      show _ = some (M.rows.getD s' [])
      rw [List.getD_eq_getElem?_getD, List.getElem?_eq_getElem h]
      rfl
    have rok : ∀ s', s' < M.rows.length → (RM M s').length = M.z.length ∧ ∀ t ∈ RM M s', t < M.rows.length := fun s' h => k.row _ (List.mem_of_getElem? (rowd s' h))
    have lz := k.let_.five
    refine ⟨st, f1, f2, _, _, _, _, 0, M.rows.length, M.z.length, RM M, finM M, rfl, up4 _ _ est, up _ _ f31, ca1, up _ _ f32, ca2, k.many, hbig, k.let_.one, lz, rok, fun s' H' Q' hs' sm hQ => ?_, fun s' H' Q' hs' sm hQ => ?_, fun H5 p fa wa ea us sm5 ep efa ew eea uo => ⟨fun b y => ?_, ?_⟩⟩
    · -- moves
      have nC : ∀ b o, H' b = some o → (∀ x, o ≠ CellO b x) → hide (inC (cloFrom (xY P w K mg base T.a_ways_of c A outer s H E).env.cells (C8.fnScope st_movesY).names [])) H' b = some o := fun b o eb n => by
        rw [hide_out (fun z => by
          obtain ⟨y, hy⟩ := z
          obtain ⟨o', v, z1, _⟩ := (CF H' sm).all y b hy
          rw [eb] at z1
          exact n _ (Option.some.inj z1))]
        exact eb
      have ha := List.getElem?_eq_getElem (l := as) (i := s') (by rw [h3.1]; exact hs')
      generalize as[s']'(by rw [h3.1]; exact hs') = a at ha
      have hr := rowd s' hs'
      have hrl := (rok s' hs').1
      refine ⟨[some (.ref t)], sm _ _ (up _ _ f31), sm _ _ (up _ _ c31), CF H' sm, t, a, as, s', RM M s', rfl, rfl, nC _ _ (sm _ _ t4) (by intro x z; cases z), ha, nC _ _ (sm _ _ (r4 s' a _ ha hr)) (by intro x z; cases z), by rw [hrl]; omega, fun H6 b gas sm6 nb eb lg ng cg h6n => ?_⟩
      have out6 : ∀ (x : Addr) (o : HO), H6 x = some o → ¬ inC (cloFrom (xY P w K mg base T.a_ways_of c A outer s H E).env.cells (C8.fnScope st_movesY).names []) x := fun x o ex z => by
        rw [h6n x z] at ex
        cases ex
      refine hQ _ b gas (fun x o ex => ?_) ?_ ((back_out (out6 b _ eb)).trans eb) lg (fun ga h => ?_) (fun c ga t' e1 e2 => ?_)
      · by_cases z : inC (cloFrom (xY P w K mg base T.a_ways_of c A outer s H E).env.cells (C8.fnScope st_movesY).names []) x
        · exact (back_in z).trans ex
        · exact (back_out z).trans (sm6 _ _ ((hide_out z).trans ex))
      · exact (hide_out (out6 b _ eb)).symm.trans nb
      · obtain ⟨c, hc⟩ := List.mem_iff_getElem?.mp h
        have hcl := (List.getElem?_eq_some_iff.mp hc).1
        exact (hide_out (out6 ga _ (cg c ga _ hc (List.getElem?_eq_getElem (by rw [← lg]; exact hcl))))).symm.trans (ng ga h)
      · have := cg c ga t' e1 e2
        exact (back_out (out6 ga _ this)).trans this
    · -- is_end
      have nC : ∀ b o, H' b = some o → (∀ x, o ≠ CellO b x) → hide (inC (cloFrom (xY P w K mg base T.a_ways_of c A outer s H E).env.cells (C8.fnScope st_is_endY).names [])) H' b = some o := fun b o eb n => by
        rw [hide_out (fun z => by
          obtain ⟨y, hy⟩ := z
          obtain ⟨o', v, z1, _⟩ := (CE H' sm).all y b hy
          rw [eb] at z1
          exact n _ (Option.some.inj z1))]
        exact eb
      have hb : (marksOf M)[s']? = some (finM M s') := by
        unfold marksOf
        rw [List.getElem?_map, List.getElem?_range hs']
        rfl
      refine ⟨[some (.ref mk)], sm _ _ (up _ _ f32), sm _ _ (up _ _ c32), CE H' sm, mk, marksOf M, finM M s', s', rfl, rfl, nC _ _ (sm _ _ k4) (by intro x z; cases z), hb, fun h6n => ?_⟩
      refine hQ _ fun x o ex => ?_
      by_cases z : inC (cloFrom (xY P w K mg base T.a_ways_of c A outer s H E).env.cells (C8.fnScope st_is_endY).names []) x
      · exact (back_in z).trans ex
      · exact (back_out z).trans ((hide_out z).trans ex)
    · obtain ⟨o, z1⟩ := cellE b y
      rw [sm5 _ _ z1, z1]
    · have keep : ∀ b o, (upd H3 st (.lst [.int (0 : Int)])) b = some o → hide (inC (xY P w K mg base T.a_ways_of c A outer s H E).env.cells) H5 b = some o := fun b o eb => by
        rw [hide_out (nin b o eb)]
        exact sm5 _ _ (up4 b o eb)
      have hid : ∀ b o, H5 b = some o → (∀ x, o ≠ CellO b x) → hide (inC (xY P w K mg base T.a_ways_of c A outer s H E).env.cells) H5 b = some o := fun b o eb n => by
        rw [hide_out (fun z => by
          obtain ⟨o', z1⟩ := cellE b z
          rw [sm5 _ _ z1] at eb
          exact n _ (Option.some.inj eb).symm)]
        exact eb
      refine q _ p fa wa ea us (fun b o eb n => keep b o (s34 _ _ (s13 b o (sm1 _ _ eb) n))) ((tb3.ext s34).ext fun b o eb => keep b o eb) (hid _ _ ep (by intro x z; cases z)) (hid _ _ efa (by intro x z; cases z)) (ew.mono fun b xs eb => hid _ _ eb (by intro x z; cases z)) (hid _ _ eea (by intro x z; cases z)) uo
end
end LH

namespace LH
open PySem PySem.Spec PyProof.Rows L2
/-! ### unseen, spread -/
def addL (ss ns : List Nat) : List Nat := ns.foldl (fun a u => if u ∈ a then a else a ++ [u]) ss
theorem addL_snoc (ss ns : List Nat) (u : Nat) : addL ss (ns ++ [u]) = if u ∈ addL ss ns then addL ss ns else addL ss ns ++ [u] := by
  unfold addL
  rw [List.foldl_append]
  rfl
theorem mem_addL {x : Nat} : ∀ {ns ss : List Nat}, x ∈ addL ss ns ↔ x ∈ ss ∨ x ∈ ns
  | [], ss => by
    show x ∈ ss ↔ _
    simp
  | u :: ns, ss => by
    show x ∈ addL (if u ∈ ss then ss else ss ++ [u]) ns ↔ _
    rw [mem_addL (ns := ns), List.mem_cons]
    by_cases h : u ∈ ss
    · rw [if_pos h]
      constructor
      · rintro (a | a)
        · exact .inl a
        · exact .inr (.inr a)
      · rintro (a | a | a)
        · exact .inl a
        · exact .inl (a ▸ h)
        · exact .inr a
    · rw [if_neg h, List.mem_append, List.mem_singleton, or_assoc]
theorem nd_addL : ∀ {ns ss : List Nat}, ss.Nodup → (addL ss ns).Nodup
  | [], _, h => h
  | u :: ns, ss, h => by
    show (addL (if u ∈ ss then ss else ss ++ [u]) ns).Nodup
    by_cases q : u ∈ ss
    · rw [if_pos q]
      exact nd_addL h
    · rw [if_neg q]
      refine nd_addL (List.nodup_append.mpr ⟨h, by simp, fun a ha b hb e => ?_⟩)
      rw [List.mem_singleton.mp hb] at e
      exact q (e ▸ ha)
/-- a dict that has just these numbers -/
def SD (kvs : List (Key × V)) (ss : List Nat) : Prop := kvs.length ≤ ss.length ∧ ∀ s : Nat, (valV kvs (Sum.inl (s : Int) : Key)).isSome = decide (s ∈ ss)
theorem SD.more {kvs : List (Key × V)} {ss : List Nat} {u : Nat} {v : V} (h : SD kvs ss) (_ : u ∉ ss) : SD (putK kvs (Sum.inl (u : Int)) v) (ss ++ [u]) := by
  refine ⟨?_, fun s => ?_⟩
  · have h1 := length_putK kvs (Sum.inl (u : Int) : Key) v
    have h2 := h.1
    rw [List.length_append]
    exact Nat.le_trans h1 (Nat.succ_le_succ h2)
  · rw [valV_put]
    by_cases z : s = u
    · subst z
      rw [if_pos rfl, decide_eq_true (List.mem_append_right _ (by simp))]
      rfl
    · rw [if_neg fun y => z (by have := Sum.inl.inj y; omega), h.2 s]
      congr 1
      simp [z]
theorem addL_lt {N : Nat} {ss ns : List Nat} (nd : ss.Nodup) (h1 : ∀ x ∈ ss, x < N) (h2 : ∀ x ∈ ns, x < N) : (addL ss ns).length ≤ N := by
  have := len_le_of_sub (nd_addL (ns := ns) nd) (ys := List.range N) fun x hx => List.mem_range.mpr ((mem_addL.mp hx).elim (h1 x) (h2 x))
  rwa [List.length_range] at this
def LstsAt (H : Hp) (las : List Addr) (nss : List (List Nat)) : Prop := las.length = nss.length ∧ ∀ (i : Nat) (a : Addr) (ns : List Nat), las[i]? = some a → nss[i]? = some ns → H a = some (.lst (vi ns))
theorem LstsAt.mono {H H' : Hp} {las : List Addr} {nss : List (List Nat)} (m : ∀ b xs, H b = some (.lst xs) → H' b = some (.lst xs)) (h : LstsAt H las nss) : LstsAt H' las nss := ⟨h.1, fun i a ns x y => m _ _ (h.2 i a ns x y)⟩
inductive CloN (nx : List (List Nat)) (S : List Nat) : Nat → Prop
  | one {x : Nat} : x ∈ S → CloN nx S x
  | step {x y : Nat} {ys : List Nat} : CloN nx S x → nx[x]? = some ys → y ∈ ys → CloN nx S y
section
variable {P : Program} {w : World} {K : PySem.W.Frag} {mg : Str → Option Value} {base : Heap}
def sp_unseen : Sp := fun vs H Q _ => ∃ (l d : Addr) (las : List Addr) (nss : List (List Nat)) (kvs : List (Key × V)) (ss : List Nat) (N : Nat), vs = [.ref l, .ref d] ∧ H l = some (.lst (vr las)) ∧ LstsAt H las nss ∧ H d = some (.dK kvs) ∧ SD kvs ss ∧ ss.Nodup ∧ (∀ x ∈ ss, x < N) ∧ (∀ x ∈ nss.flatten, x < N) ∧ N ≤ 100000 ∧
  ∀ H' f kvs' fs, Off d H H' → H f = none → H' f = some (.lst (vi fs)) → H' d = some (.dK kvs') → SD kvs' (ss ++ fs) → ss ++ fs = addL ss nss.flatten → Q (.ref f) H'
theorem ok_unseen (T : TX K mg) : FnOk P w K mg base CX0 1 T.a_unseen T.fd_unseen ["lists", "seen"] sp_unseen := by
  refine T.F_unseen.ok sc_unseen (fun vs H Q E h => ?_) (fun cdv A outer s H vs Q E hr h => ?_)
  · obtain ⟨l, d, las, nss, kvs, ss, N, rfl, _⟩ := h
    rfl
  · obtain ⟨l, d, las, nss, kvs, ss, N, rfl, el, ela, ed, sd, nd, lt1, lt2, hN, q⟩ := h
    refine ⟨_, (pss_cons (ps_set (i := 2) sc_unseen.nd rfl (Or.inl rfl) (pe_lst pa_nil))
      (pss_cons (ps_for PassesOwn.never rfl (pi_listK K rfl (pv 0)) (pg_name (i := 3) sc_unseen.nd rfl (Or.inl rfl))
        (pss_one (ps_for PassesOwn.never rfl (pi_listK K rfl (pv 3)) (pg_name (i := 4) sc_unseen.nd rfl (Or.inl rfl))
            (pss_one (ps_if (pt_cmp (pc_dnotin (hu_of hr) (pv 4) (pv 1)))
                (pss_cons (ps_dput (hu_of hr) (pv 1) (pv 4) pe_bl rfl)
                  (pss_one (ps_expr (pe_bmK K rfl PySem.F.plainAttrs_list PySem.F.slot_list_append PySem.F.type_list_append mt_append (pv 2) (pa_cons (pv 4) pa_nil)))))
                pss_nil)))))
      (pss_one (ps_ret (pv 2))))), ?_⟩
    have neD : ∀ {b : Addr} {xs : List V}, H b = some (.lst xs) → b ≠ d := fun e => ne_of e ed (by intro z; cases z)
    have ld := neD el
    refine ⟨by show 0 ≤ sizeLine; decide, fun f nf => ?_⟩
    have df : d ≠ f := ne_of_none ed nf
    have s0 : Same H (upd H f (.lst [])) := same_new nf
    have e0 : (upd H f (.lst [])) f = some (.lst (vi [])) := upd_same
    generalize upd H f (.lst []) = H0 at s0 e0
    have small : ∀ (i : Nat) (ns : List Nat), (∀ x ∈ (nss.take i).flatten ++ ns, x < N) → (addL ss ((nss.take i).flatten ++ ns)).length ≤ N := fun i ns h => addL_lt nd lt1 h
    refine ⟨.ref l, rfl, l, rfl, ⟨_, .inl (.inl (s0 _ _ el))⟩, ?_⟩
    refine for_it (walk_list (K := K) (a := l) (xs := vr las)) (fun i σ H' => Off d H H' ∧ (∃ kvs' fs, H' f = some (.lst (vi fs)) ∧ H' d = some (.dK kvs') ∧ SD kvs' (ss ++ fs) ∧ ss ++ fs = addL ss (nss.take i).flatten) ∧ ∃ y3 y4, σ = [some (.ref l), some (.ref d), some (.ref f), y3, y4]) ⟨Off.of s0, ⟨kvs, [], e0, s0 _ _ ed, by rw [List.append_nil]; exact sd, by rw [List.append_nil]; rfl⟩, none, none, rfl⟩ (fun i σ H' _ hP => .inl (.inl (hP.1 _ _ ld el))) (fun i v σ H1 H1' hi hW hY => ?_) (fun σ H1 hW => ?_)
    · obtain ⟨o1, ⟨kvs1, fs1, ef1, ed1, sd1, ea1⟩, y3, y4, rfl⟩ := hW
      obtain ⟨rfl, hx⟩ := hY
      obtain ⟨a, ha, rfl⟩ := vr_at hx
      rw [List.length_map, ela.1] at hi
      have hns := List.getElem?_eq_getElem hi
      generalize nss[i] = ns at hns
      have ena := ela.2 i a ns ha hns
      have ad := neD ena
      have et : (nss.take (i + 1)).flatten = (nss.take i).flatten ++ ns := by
        rw [List.take_add_one, hns, List.flatten_append]
        simp
      have lt3 : ∀ x ∈ (nss.take i).flatten ++ ns, x < N := fun x hx => by
        rw [← et] at hx
        obtain ⟨ys, h1, h2⟩ := List.mem_flatten.mp hx
        exact lt2 x (List.mem_flatten.mpr ⟨ys, List.take_subset _ _ h1, h2⟩)
      refine ⟨.ref a, rfl, a, rfl, ⟨_, .inl (.inl (o1 _ _ ad ena))⟩, ?_⟩
      refine for_it (walk_list (K := K) (a := a) (xs := vi ns)) (fun j σ H' => Off d H H' ∧ (∃ kvs' fs, H' f = some (.lst (vi fs)) ∧ H' d = some (.dK kvs') ∧ SD kvs' (ss ++ fs) ∧ ss ++ fs = addL ss ((nss.take i).flatten ++ ns.take j)) ∧ ∃ y4, σ = [some (.ref l), some (.ref d), some (.ref f), some (.ref a), y4]) ⟨o1, ⟨kvs1, fs1, ef1, ed1, sd1, by rw [List.take_zero, List.append_nil]; exact ea1⟩, _, rfl⟩ (fun i σ H' _ hP => .inl (.inl (hP.1 _ _ ad ena))) (fun j v σ H2 H2' hj hW hY => ?_) (fun σ H2 hW => ?_)
      · obtain ⟨o2, ⟨kvs2, fs2, ef2, ed2, sd2, ea2⟩, y4, rfl⟩ := hW
        obtain ⟨rfl, hx⟩ := hY
        obtain ⟨u, hu, rfl⟩ := int_at hx
        have en : addL ss ((nss.take i).flatten ++ ns.take (j + 1)) = if u ∈ ss ++ fs2 then ss ++ fs2 else ss ++ fs2 ++ [u] := by
          rw [take_snoc hu, ← List.append_assoc, addL_snoc, ea2]
        have len2 := small i (ns.take j) fun x hx => lt3 x (by
          rcases List.mem_append.mp hx with h | h
          · exact List.mem_append_left _ h
          · exact List.mem_append_right _ (List.take_subset _ _ h))
        rw [← ea2, List.length_append] at len2
        have k1 := sd2.1
        rw [List.length_append] at k1
        refine ⟨.int (u : Int), rfl, .ref d, rfl, d, _, rfl, DGet.k (k := Sum.inl (u : Int)) ed2, _, rfl, ?_⟩
        rw [sd2.2 u]
        by_cases h : u ∈ ss ++ fs2
        · rw [decide_eq_true h]
          exact ⟨o2, ⟨kvs2, fs2, ef2, ed2, sd2, by rw [en, if_pos h]⟩, _, rfl⟩
        · rw [decide_eq_false h]
          refine ⟨.ref d, rfl, .int (u : Int), rfl, d, _, rfl, DPut.k (k := Sum.inl (u : Int)) ed2 (Nat.lt_of_le_of_lt (show kvs2.length ≤ 1000000 by omega) (by decide)), ?_⟩
          have e3 : (upd H2' d (.dK (putK kvs2 (Sum.inl (u : Int)) (.bl true)))) f = some (.lst (vi fs2)) := by rw [upd_ne df.symm]; exact ef2
          refine ⟨.ref f, rfl, .inl ⟨rfl, _, .inl (.inl e3)⟩, .int (u : Int), rfl, f, _, _, rfl, rfl, e3, by rw [List.length_map]; exact Nat.lt_of_le_of_lt (show fs2.length ≤ 1000000 by omega) (by decide), fun b ob bd eb => ?_, ⟨putK kvs2 (Sum.inl (u : Int)) (.bl true), fs2 ++ [u], ?_, ?_, ?_, ?_⟩, _, rfl⟩
          · rw [upd_ne (ne_of_none eb nf), upd_ne bd]
            exact o2 _ _ bd eb
          · rw [upd_same, vi_snoc]
          · rw [upd_ne df, upd_same]
          · rw [← List.append_assoc]
            exact sd2.more h
          · rw [en, if_neg h, List.append_assoc]
      · obtain ⟨o2, ⟨kvs2, fs2, ef2, ed2, sd2, ea2⟩, y4, rfl⟩ := hW
        rw [List.length_map, List.take_of_length_le (Nat.le_refl _)] at ea2
        exact ⟨o2, ⟨kvs2, fs2, ef2, ed2, sd2, by rw [ea2, et]⟩, _, _, rfl⟩
    · obtain ⟨o1, ⟨kvs1, fs1, ef1, ed1, sd1, ea1⟩, y3, y4, rfl⟩ := hW
      rw [List.length_map, ela.1, List.take_of_length_le (Nat.le_refl _)] at ea1
      exact ⟨.ref f, rfl, q _ f kvs1 fs1 o1 nf ef1 ed1 sd1 ea1⟩
end
end LH

namespace LH
open PySem PySem.Spec PyProof.Rows L2
/-! ### views by letters' places -/
inductive GoV (R : Nat → List Nat) (s0 : Nat) : List Nat → Nat → Prop
  | nil : GoV R s0 [] s0
  | stay {v : List Nat} {s t : Nat} : GoV R s0 v s → t ∈ R s → GoV R s0 v t
  | go {v : List Nat} {s t c : Nat} : GoV R s0 v s → (R s)[c]? = some t → GoV R s0 (v ++ [c]) t
def Told (R : Nat → List Nat) (fin : Nat → Bool) (s0 : Nat) (v : List Nat) : Prop := ∃ s, GoV R s0 v s ∧ LdS R fin s
noncomputable def toldB (R : Nat → List Nat) (fin : Nat → Bool) (s0 : Nat) (v : List Nat) : Bool := @decide (Told R fin s0 v) (Classical.propDecidable _)
section
variable {R : Nat → List Nat} {fin : Nat → Bool} {s0 n0 L : Nat} {us : List Nat}
theorem toldB_iff {v : List Nat} : toldB R fin s0 v = true ↔ Told R fin s0 v := by
  unfold toldB
  exact @decide_eq_true_iff _ (Classical.propDecidable _)
theorem gov_rch {v : List Nat} {s : Nat} (h : GoV R s0 v s) : RchS R s0 s := by
  induction h with
  | nil => exact .refl
  | stay _ h ih => exact .step ih h
  | go _ h ih => exact .step ih (List.mem_of_getElem? h)
theorem rch_gov {s : Nat} (h : RchS R s0 s) : GoV R s0 [] s := by
  induction h with
  | refl => exact .nil
  | step _ h ih => exact .stay ih h
theorem snocN_inj {v w : List Nat} {c d : Nat} (h : v ++ [c] = w ++ [d]) : v = w ∧ c = d := by
  obtain ⟨a, b⟩ := List.append_inj' h rfl
  exact ⟨a, by cases b; rfl⟩
theorem gov_pre {w v : List Nat} {c s : Nat} (h : GoV R s0 w s) (e : w = v ++ [c]) (l : LdS R fin s) : Told R fin s0 v := by
  induction h with
  | nil => simp at e
  | stay _ ht ih => exact ih e (.step ht l)
  | go h ht _ =>
    obtain ⟨rfl, rfl⟩ := snocN_inj e
    exact ⟨_, h, .step (List.mem_of_getElem? ht) l⟩
theorem told_pre {v : List Nat} {c : Nat} (h : toldB R fin s0 v = false) : toldB R fin s0 (v ++ [c]) = false := by
  cases e : toldB R fin s0 (v ++ [c]) with
  | false => rfl
  | true =>
    obtain ⟨s, a, b⟩ := toldB_iff.mp e
    rw [toldB_iff.mpr (gov_pre a rfl b)] at h
    cases h
def extI (L : Nat) (v : List Nat) : List (List Nat) := (List.range L).map fun c => v ++ [c]
def rowI (L : Nat) : Nat → List (List Nat)
  | 0 => [[]]
  | m + 1 => (rowI L m).flatMap (extI L)
def shortI (L n : Nat) : List (List Nat) := (List.range (n + 1)).flatMap (rowI L)
theorem shortI_succ (L n : Nat) : shortI L (n + 1) = shortI L n ++ rowI L (n + 1) := by
  unfold shortI
  rw [List.range_succ, List.flatMap_append]
  simp
theorem filter_flat {p : List Nat → Bool} {e : List Nat → List (List Nat)} : ∀ {l : List (List Nat)}, (∀ v ∈ l, p v = false → (e v).filter p = []) → ((l.filter p).flatMap e).filter p = (l.flatMap e).filter p
  | [], _ => rfl
  | v :: l, h => by
    have ih := filter_flat (l := l) fun u hu => h u (List.mem_cons_of_mem _ hu)
    rw [List.flatMap_cons, List.filter_append, List.filter_cons]
    cases q : p v with
    | true =>
      rw [if_pos rfl, List.flatMap_cons, List.filter_append, ih]
    | false =>
      rw [if_neg Bool.false_ne_true, h v List.mem_cons_self q, List.nil_append, ih]
theorem row_told (L m : Nat) : (((rowI L m).filter (toldB R fin s0)).flatMap (extI L)).filter (toldB R fin s0) = (rowI L (m + 1)).filter (toldB R fin s0) := by
  refine filter_flat fun v _ h => ?_
  refine List.filter_eq_nil_iff.mpr fun u hu => ?_
  obtain ⟨c, _, rfl⟩ := List.mem_map.mp hu
  rw [told_pre h]
  exact Bool.false_ne_true
theorem extI_len (v : List Nat) : (extI L v).length = L := by
  unfold extI
  rw [List.length_map, List.length_range]
theorem rowI_len : ∀ m, (rowI L m).length = L ^ m
  | 0 => rfl
  | m + 1 => by
    show ((rowI L m).flatMap (extI L)).length = _
    rw [List.length_flatMap, List.map_congr_left (g := fun _ => L) (fun v _ => extI_len v), List.map_const', List.sum_replicate_nat, rowI_len m, Nat.pow_succ]
theorem rowI_word {m : Nat} : ∀ {v : List Nat}, v ∈ rowI L m → v.length = m ∧ ∀ c ∈ v, c < L := by
  induction m with
  | zero =>
    intro v h
    rw [List.mem_singleton.mp h]
    exact ⟨rfl, fun _ h => nomatch h⟩
  | succ m ih =>
    intro v h
    obtain ⟨u, hu, hv⟩ := List.mem_flatMap.mp h
    obtain ⟨c, hc, rfl⟩ := List.mem_map.mp hv
    obtain ⟨a, b⟩ := ih hu
    refine ⟨by rw [List.length_append, a]; rfl, fun d hd => ?_⟩
    rcases List.mem_append.mp hd with q | q
    · exact b d q
    · rw [List.mem_singleton.mp q]
      exact List.mem_range.mp hc
theorem shortI_len (h1 : 1 ≤ L) {n B : Nat} (h : L ^ n ≤ B) : (shortI L n).length ≤ (n + 1) * B := by
  induction n with
  | zero =>
    show 1 ≤ _
    have : L ^ 0 = 1 := rfl
    omega
  | succ n ih =>
    rw [shortI_succ, List.length_append, rowI_len]
    have := ih (Nat.le_trans (Nat.pow_le_pow_right h1 (Nat.le_succ n)) h)
    rw [Nat.succ_mul (n + 1)]
    omega
/-! ### held numbers -/
def cellU (us : List Nat) (R : Nat → List Nat) (i c : Nat) : List Nat := if (R (us.getD i 0)).getD c 0 ∈ us then [us.idxOf ((R (us.getD i 0)).getD c 0)] else []
def nxU (us : List Nat) (R : Nat → List Nat) (L : Nat) : List (List Nat) := (List.range us.length).map fun i => (List.range L).flatMap fun c => cellU us R i c
def HeldOk (us : List Nat) (R : Nat → List Nat) (s0 : Nat) (v hd : List Nat) : Prop := ∀ i, i ∈ hd ↔ ∃ s, us[i]? = some s ∧ GoV R s0 v s
theorem idx_at (nd : us.Nodup) {x t : Nat} (h : us[x]? = some t) : x = us.idxOf t := by
  obtain ⟨hx, e⟩ := List.getElem?_eq_some_iff.mp h
  have hm : t ∈ us := List.mem_of_getElem? h
  have hl := List.idxOf_lt_length_iff.mpr hm
  refine (List.getElem_inj (h₀ := hx) (h₁ := hl) nd).mp ?_
  rw [e, List.getElem_idxOf]
theorem at_idx {t : Nat} (h : t ∈ us) : us[us.idxOf t]? = some t := by
  have hl := List.idxOf_lt_length_iff.mpr h
  rw [List.getElem?_eq_getElem hl, List.getElem_idxOf]
theorem mem_cellU (uo : UsOk R fin s0 n0 us) (hR : ∀ s, s < n0 → (R s).length = L) {i s c x : Nat} (hs : us[i]? = some s) (hc : c < L) : x ∈ cellU us R i c ↔ ∃ t, (R s)[c]? = some t ∧ us[x]? = some t := by
  have hsl := hR s (uo.lt s (List.mem_of_getElem? hs))
  have e1 : us.getD i 0 = s := by rw [List.getD_eq_getElem?_getD, hs]; rfl
  have hc' := List.getElem?_eq_getElem (l := R s) (i := c) (by omega)
  have e2 : (R s).getD c 0 = (R s)[c]'(by omega) := by rw [List.getD_eq_getElem?_getD, hc']; rfl
  generalize (R s)[c]'(by omega) = t at hc' e2
  unfold cellU
  rw [e1, e2]
  constructor
  · intro h
    by_cases q : t ∈ us
    · rw [if_pos q] at h
      rw [List.mem_singleton.mp h]
      exact ⟨t, hc', at_idx q⟩
    · rw [if_neg q] at h
      cases h
  · rintro ⟨t', a, b⟩
    rw [hc'] at a
    cases a
    rw [if_pos (List.mem_of_getElem? b)]
    exact List.mem_singleton.mpr (idx_at uo.nd b)
theorem cellU_lt {i c x : Nat} (h : x ∈ cellU us R i c) : x < us.length := by
  unfold cellU at h
  by_cases q : (R (us.getD i 0)).getD c 0 ∈ us
  · rw [if_pos q] at h
    rw [List.mem_singleton.mp h]
    exact List.idxOf_lt_length_iff.mpr q
  · rw [if_neg q] at h
    cases h
theorem cellU_len {i c : Nat} : (cellU us R i c).length ≤ 1 := by
  unfold cellU
  by_cases q : (R (us.getD i 0)).getD c 0 ∈ us
  · rw [if_pos q]
    exact Nat.le_refl _
  · rw [if_neg q]
    exact Nat.zero_le _
theorem nxU_at {i : Nat} (h : i < us.length) : (nxU us R L)[i]? = some ((List.range L).flatMap fun c => cellU us R i c) := by
  unfold nxU
  rw [List.getElem?_map, List.getElem?_range h]
  rfl
theorem nxU_len : (nxU us R L).length = us.length := by
  unfold nxU
  rw [List.length_map, List.length_range]
theorem spread_ok (uo : UsOk R fin s0 n0 us) (hR : ∀ s, s < n0 → (R s).length = L) {v hd : List Nat} (ho : HeldOk us R s0 v hd) {c : Nat} (hc : c < L) (x : Nat) :
    CloN (nxU us R L) (hd.map fun i => cellU us R i c).flatten x ↔ ∃ s, us[x]? = some s ∧ GoV R s0 (v ++ [c]) s := by
  constructor
  · intro h
    induction h with
    | one h =>
      obtain ⟨ys, h1, h2⟩ := List.mem_flatten.mp h
      obtain ⟨i, hi, rfl⟩ := List.mem_map.mp h1
      obtain ⟨s, hs, g⟩ := (ho i).mp hi
      obtain ⟨t, a, b⟩ := (mem_cellU uo hR hs hc).mp h2
      exact ⟨t, b, .go g a⟩
    | step _ hn hy ih =>
      obtain ⟨s, hs, g⟩ := ih
      rw [nxU_at (List.getElem?_eq_some_iff.mp hs).1] at hn
      cases hn
      obtain ⟨d, hd', h2⟩ := List.mem_flatMap.mp hy
      obtain ⟨t, a, b⟩ := (mem_cellU uo hR hs (List.mem_range.mp hd')).mp h2
      exact ⟨t, b, .stay g (List.mem_of_getElem? a)⟩
  · rintro ⟨s, hs, g⟩
    have hin := List.mem_of_getElem? hs
    have back : ∀ {s' t w}, GoV R s0 w s' → t ∈ R s' → t ∈ us → s' ∈ us := fun g h1 h2 => (uo.mem _).mpr ⟨gov_rch g, .step h1 ((uo.mem _).mp h2).2⟩
    generalize hw : v ++ [c] = w at g
    induction g generalizing x with
    | nil => simp at hw
    | stay g ht ih =>
      have q := back g ht hin
      have ihx := ih _ (at_idx q) q hw
      obtain ⟨d, hd'⟩ := List.mem_iff_getElem?.mp ht
      have hdl := (List.getElem?_eq_some_iff.mp hd').1
      rw [hR _ (uo.lt _ q)] at hdl
      refine .step ihx (nxU_at (List.idxOf_lt_length_iff.mpr q)) (List.mem_flatMap.mpr ⟨d, List.mem_range.mpr hdl, ?_⟩)
      exact (mem_cellU uo hR (at_idx q) hdl).mpr ⟨_, hd', hs⟩
    | go g ht _ =>
      obtain ⟨rfl, rfl⟩ := snocN_inj hw
      have q := back g (List.mem_of_getElem? ht) hin
      exact .one (List.mem_flatten.mpr ⟨_, List.mem_map.mpr ⟨_, (ho _).mpr ⟨_, at_idx q, g⟩, rfl⟩, (mem_cellU uo hR (at_idx q) hc).mpr ⟨_, ht, hs⟩⟩)
theorem held0 (uo : UsOk R fin s0 n0 us) : HeldOk us R s0 [] (List.range us.length) := fun i => by
  rw [List.mem_range]
  constructor
  · intro h
    exact ⟨us[i], List.getElem?_eq_getElem h, rch_gov ((uo.mem _).mp (List.getElem_mem h)).1⟩
  · rintro ⟨s, h, _⟩
    exact (List.getElem?_eq_some_iff.mp h).1
theorem told_held (uo : UsOk R fin s0 n0 us) {v hd : List Nat} (ho : HeldOk us R s0 v hd) : Told R fin s0 v ↔ hd ≠ [] := by
  constructor
  · rintro ⟨s, g, l⟩ e
    have q := (uo.mem s).mpr ⟨gov_rch g, l⟩
    have := (ho _).mpr ⟨s, at_idx q, g⟩
    rw [e] at this
    cases this
  · intro e
    obtain ⟨i, hi⟩ := List.exists_mem_of_ne_nil _ e
    obtain ⟨s, hs, g⟩ := (ho i).mp hi
    exact ⟨s, g, ((uo.mem s).mp (List.mem_of_getElem? hs)).2⟩
theorem told_none (uo : UsOk R fin s0 n0 []) (v : List Nat) : toldB R fin s0 v = false := by
  cases e : toldB R fin s0 v with
  | false => rfl
  | true =>
    obtain ⟨s, g, l⟩ := toldB_iff.mp e
    have q := (uo.mem s).mpr ⟨gov_rch g, l⟩
    cases q
end
end LH

namespace LH
open PySem PySem.Spec PyProof.Rows L2 NdefX LamX LU
theorem sub_snoc {y w : List Nat} {c : Nat} : y.Sublist (w ++ [c]) ↔ y.Sublist w ∨ ∃ y', y = y' ++ [c] ∧ y'.Sublist w := by
  rw [List.sublist_append_iff]
  constructor
  · rintro ⟨a, b, rfl, h1, h2⟩
    cases h2 with
    | cons _ h =>
      cases h
      rw [List.append_nil]
      exact .inl h1
    | cons_cons _ h =>
      cases h
      exact .inr ⟨a, rfl, h1⟩
  · rintro (h | ⟨a, rfl, h⟩)
    · exact ⟨y, [], (List.append_nil y).symm, h, List.nil_sublist _⟩
    · exact ⟨a, [c], rfl, h, List.Sublist.refl _⟩
/-! ### views that are told, by the words of a machine -/
section
variable {M : Mach}
abbrev chr (z : Str) (v : List Nat) : List Nat := v.map fun c => z.cps.toList.getD c 0
theorem lds_endP {R : Nat → List Nat} {fin : Nat → Bool} {v : List Nat} {s : Nat} (l : LdS R fin s) (g : GoV R 0 v s) : ∃ s', GoV R 0 v s' ∧ fin s' = true := by
  induction l with
  | stop h => exact ⟨_, g, h⟩
  | step h _ ih => exact ih (.stay g h)
theorem RM_row {s : Nat} (h : s < M.rows.length) : M.rows[s]? = some (RM M s) := by
  show _ = some (M.rows.getD s [])
  rw [List.getD_eq_getElem?_getD, List.getElem?_eq_getElem h]
  rfl
theorem gov_lt (k : M.Ok) {v : List Nat} {s : Nat} (g : GoV (RM M) 0 v s) : s < M.rows.length := by
  induction g with
  | nil => exact k.many
  | stay _ ht ih => exact (k.row _ (List.mem_of_getElem? (RM_row ih))).2 _ ht
  | go _ ht ih => exact (k.row _ (List.mem_of_getElem? (RM_row ih))).2 _ (List.mem_of_getElem? ht)
theorem step_of (k : M.Ok) {s i t : Nat} (h : s < M.rows.length) (e : (RM M s)[i]? = some t) : i < M.z.length ∧ M.z.cps.toList.getD i 0 ∈ M.z.cps.toList ∧ M.step s (M.z.cps.toList.getD i 0) = t := by
  have hl := (k.row _ (List.mem_of_getElem? (RM_row h))).1
  have hi := (List.getElem?_eq_some_iff.mp e).1
  have hz : i < M.z.cps.toList.length := by rw [Array.length_toList]; show i < M.z.length; omega
  refine ⟨by omega, ?_, ?_⟩
  · rw [List.getD_eq_getElem?_getD, List.getElem?_eq_getElem hz]
    exact List.getElem_mem hz
  · unfold Mach.step
    rw [idx_of_rise k.let_.rise hz]
    show (RM M s).getD i 0 = t
    rw [List.getD_eq_getElem?_getD, e]
    rfl
theorem run_app (cs : List Nat) (d : Nat) : M.run (cs ++ [d]) = M.step (M.run cs) d := by
  unfold Mach.run
  rw [List.foldl_append]
  rfl
theorem gov_word (k : M.Ok) {v : List Nat} {s : Nat} (g : GoV (RM M) 0 v s) : ∃ cs, (∀ c ∈ cs, c ∈ M.z.cps.toList) ∧ M.run cs = s ∧ (chr M.z v).Sublist cs := by
  induction g with
  | nil => exact ⟨[], (fun _ h => nomatch h), rfl, List.Sublist.refl _⟩
  | stay g ht ih =>
    obtain ⟨cs, a, b, c⟩ := ih
    obtain ⟨i, hi⟩ := List.mem_iff_getElem?.mp ht
    obtain ⟨_, h2, h3⟩ := step_of k (gov_lt k g) hi
    exact ⟨cs ++ [M.z.cps.toList.getD i 0], mem_snoc a h2, by rw [run_app, b, h3], c.trans (List.sublist_append_left _ _)⟩
  | go g ht ih =>
    obtain ⟨cs, a, b, c⟩ := ih
    obtain ⟨_, h2, h3⟩ := step_of k (gov_lt k g) ht
    refine ⟨cs ++ [M.z.cps.toList.getD _ 0], mem_snoc a h2, by rw [run_app, b, h3], ?_⟩
    unfold chr
    rw [List.map_append]
    exact c.append (List.Sublist.refl _)
theorem run_lt (k : M.Ok) {cs : List Nat} (h : ∀ c ∈ cs, c ∈ M.z.cps.toList) : M.run cs < M.rows.length := k.run_lt cs 0 k.many h
theorem word_gov (k : M.Ok) : ∀ (n : Nat) (cs v : List Nat), cs.length = n → (∀ c ∈ cs, c ∈ M.z.cps.toList) → (∀ c ∈ v, c < M.z.length) → (chr M.z v).Sublist cs → GoV (RM M) 0 v (M.run cs)
  | 0, cs, v, e, _, _, s => by
    obtain rfl : cs = [] := List.length_eq_zero_iff.mp e
    have : v = [] := List.map_eq_nil_iff.mp (List.sublist_nil.mp s)
    rw [this]
    exact .nil
  | n + 1, cs, v, e, h, hv, s => by
    have hne : cs ≠ [] := fun z => by rw [z] at e; cases e
    obtain ⟨cs', d, rfl⟩ : ∃ cs' d, cs = cs' ++ [d] := ⟨cs.dropLast, cs.getLast hne, (List.dropLast_concat_getLast hne).symm⟩
    rw [List.length_append] at e
    have e : cs'.length = n := Nat.succ.inj e
    have h' : ∀ c ∈ cs', c ∈ M.z.cps.toList := fun c hc => h c (List.mem_append_left _ hc)
    have hd := h d (List.mem_append_right _ (by simp))
    have hl := run_lt k h'
    obtain ⟨row, er, ei, _⟩ := k.step_at hl hd
    rw [RM_row hl] at er
    cases er
    rw [run_app]
    rcases sub_snoc.mp s with q | ⟨y, ey, q⟩
    · exact .stay (word_gov k n cs' v e h' hv q) (List.mem_of_getElem? ei)
    · obtain ⟨v1, v2, rfl, e1, e2⟩ := List.map_eq_append_iff.mp ey
      obtain ⟨x, rfl, ex⟩ : ∃ x, v2 = [x] ∧ M.z.cps.toList.getD x 0 = d := by
        cases v2 with
        | nil => cases e2
        | cons x r =>
          cases r with
          | nil => exact ⟨x, rfl, (List.cons.inj e2).1⟩
          | cons _ _ => cases e2
      have hx := hv x (List.mem_append_right _ (by simp))
      rw [← ex, idx_of_rise k.let_.rise (by rw [Array.length_toList]; exact hx), ex] at ei
      refine .go (word_gov k n cs' v1 e h' (fun c hc => hv c (List.mem_append_left _ hc)) ?_) ei
      rw [← e1] at q
      exact q
theorem told_words (k : M.Ok) {v : List Nat} (hv : ∀ c ∈ v, c < M.z.length) : toldB (RM M) (finM M) 0 v = true ↔ ∃ cs, (∀ c ∈ cs, c ∈ M.z.cps.toList) ∧ M.has cs = true ∧ (chr M.z v).Sublist cs := by
  rw [toldB_iff]
  constructor
  · rintro ⟨s, g, l⟩
    obtain ⟨s', g', f⟩ := lds_endP l g
    obtain ⟨cs, a, b, c⟩ := gov_word k g'
    exact ⟨cs, a, by unfold Mach.has; rw [b]; exact f, c⟩
  · rintro ⟨cs, a, b, c⟩
    exact ⟨M.run cs, word_gov k _ cs v rfl a hv c, .stop b⟩
end
end LH

namespace LH
open PySem PySem.Spec PyProof.Rows L2 NdefX LamX LU
theorem keysT_merge : ∀ {more kvs : List (Key × V)} {W2 W : List Str}, KeysT more W2 → KeysT kvs W → ∃ W3, KeysT (mergeK kvs more) W3 ∧ (∀ x, x ∈ W3 ↔ x ∈ W ∨ x ∈ W2) ∧ (W.Nodup → W3.Nodup)
  | [], kvs, [], W, _, h => ⟨W, h, fun x => ⟨.inl, fun q => q.elim id fun q => nomatch q⟩, id⟩
  | [], _, _ :: _, _, h, _ => nomatch h
  | _ :: _, _, [], _, h, _ => nomatch h
  | p :: r, kvs, y :: W2, W, h, hk => by
    have h0 : p.1 = Sum.inr y ∧ KeysT r W2 := by
      have : p.1 :: r.map (fun kv => kv.1) = Sum.inr y :: W2.map Sum.inr := h
      exact ⟨(List.cons.inj this).1, (List.cons.inj this).2⟩
    obtain ⟨W3, a, b, c⟩ := keysT_merge h0.2 (keysT_put (y := y) (z := p.2) hk)
    refine ⟨W3, ?_, fun x => ?_, fun nd => c (nodup_put nd)⟩
    · show KeysT (mergeK (putK kvs p.1 p.2) r) W3
      rw [h0.1]
      exact a
    · rw [b, mem_put, List.mem_cons]
      constructor
      · rintro ((a | a) | a)
        · exact .inl a
        · exact .inr (.inl a)
        · exact .inr (.inr a)
      · rintro (a | a | a)
        · exact .inl (.inl a)
        · exact .inl (.inr a)
        · exact .inr a
theorem keysT_has {kvs : List (Key × V)} {W : List Str} (h : KeysT kvs W) (y : Str) : (valV kvs (Sum.inr y)).isSome = decide (y ∈ W) := by
  rw [← valV_any, keysT_any h]
/-- a text of these letters, no longer than n -/
def TOk (z : Str) (n : Nat) (x : Str) : Prop := x.length ≤ n ∧ ∀ c ∈ x.cps.toList, c ∈ z.cps.toList
theorem TOk.cut {z x : Str} {n : Nat} (h : TOk z n x) (lo hi : Option Int) : TOk z n (cutS x lo hi) := by
  unfold cutS
  refine ⟨?_, fun c hc => h.2 c (List.mem_of_mem_drop (List.mem_of_mem_take hc))⟩
  show (List.toArray _).size ≤ n
  rw [List.size_toArray, List.length_take, List.length_drop, Array.length_toList]
  have : x.cps.size ≤ n := h.1
  omega
theorem TOk.app {z x y : Str} {n m : Nat} (h : TOk z n x) (k : TOk z m y) : TOk z (n + m) (x ++ y) := by
  refine ⟨?_, fun c hc => ?_⟩
  · show (x.cps ++ y.cps).size ≤ n + m
    rw [Array.size_append]
    exact Nat.add_le_add h.1 k.1
  · have hc' : c ∈ (x.cps ++ y.cps).toList := hc
    rw [Array.toList_append] at hc'
    rcases List.mem_append.mp hc' with q | q
    · exact h.2 c q
    · exact k.2 c q
theorem TOk.sg {z : Str} {c : Nat} (h : c ∈ z.cps.toList) : TOk z 1 (sg c) := ⟨Nat.le_refl _, fun d hd => by rw [List.mem_singleton.mp hd]; exact h⟩
theorem TOk.rep {z : Str} {c n : Nat} (h : c ∈ z.cps.toList) : TOk z n (repS (LH.sg c) n) := by
  refine ⟨by rw [repS_len]; show n * 1 ≤ n; omega, fun d hd => ?_⟩
  obtain ⟨l, hl, hd⟩ := List.mem_flatten.mp hd
  rw [(List.mem_replicate.mp hl).2] at hd
  rw [List.mem_singleton.mp hd]
  exact h
theorem TOk.le {z x : Str} {n m : Nat} (h : TOk z n x) (k : n ≤ m) : TOk z m x := ⟨Nat.le_trans h.1 k, h.2⟩
theorem TOk.nil (z : Str) (n : Nat) : TOk z n ⟨#[]⟩ := ⟨Nat.zero_le _, fun _ h => nomatch h⟩
theorem sum_sgn (cs : List Nat) : ((cs.map sg).map (·.length)).sum = cs.length := by
  rw [List.map_map, show ((fun x : Str => x.length) ∘ sg) = fun _ => 1 from rfl, List.map_const', List.sum_replicate_nat]
  omega
theorem vs_mapS (cs : List Nat) : vs_ cs = (cs.map sg).map V.str := by
  rw [List.map_map]
  rfl
end LH

namespace LH
open PySem PySem.Spec PyProof.Rows L2 NdefX LamX LU
theorem lstN {H H' : Hp} {a : Addr} {xs : List V} (x : ExtN H H') (e : H a = some (.lst xs)) : H' a = some (.lst xs) := x a _ e (by intro ps z; cases z)
theorem tupsN {H H' : Hp} (x : ExtN H H') : Tups H H' := fun b xs e => x b _ e (by intro ps z; cases z)
theorem tabs_off {T : List NTab} {H H' : Hp} {r : Addr} {xs : List V} (t : TabsN T H) (hr : H r = some (.lst xs)) (e : ∀ b o, b ≠ r → H b = some o → H' b = some o) : TabsN T H' := fun p hp => by
  obtain ⟨ps, h1, h2, h3⟩ := t p hp
  refine ⟨ps, e _ _ (fun z => by rw [z, hr] at h1; cases h1) h1, h2, fun pos cv hc => ?_⟩
  obtain ⟨c, e1, e2⟩ := h3 pos cv hc
  refine ⟨c, e1, e _ _ (fun z => ?_) e2⟩
  rw [z, hr] at e2
  unfold CodeO at e2
  cases e2
theorem RowsAt.nil {H : Hp} : RowsAt H [] [] := ⟨rfl, fun i a row x => by simp at x⟩
theorem RowsAt.cons {H : Hp} {a : Addr} {as : List Addr} {r : List Nat} {rows : List (List Nat)} (h : H a = some (.tup (vi r))) (t : RowsAt H as rows) : RowsAt H (a :: as) (r :: rows) := ⟨congrArg (· + 1) t.1, fun i b row x y => by
  cases i with
  | zero =>
    cases x
    cases y
    exact h
  | succ i => exact t.2 i b row (by simpa using x) (by simpa using y)⟩
/-- all that is tracked stands, but for what stands at r, and the tables' counts -/
def OffN (r : Addr) (H H' : Hp) : Prop := ∀ b o, b ≠ r → H b = some o → (∀ ps, o ≠ .tbl ps) → H' b = some o
theorem OffN.refl (r : Addr) (H : Hp) : OffN r H H := fun _ _ _ h _ => h
theorem OffN.trans {r : Addr} {H H1 H2 : Hp} (a : OffN r H H1) (b : OffN r H1 H2) : OffN r H H2 := fun c o n h t => b c o n (a c o n h t) t
theorem OffN.off {r : Addr} {H H' : Hp} (a : Off r H H') : OffN r H H' := fun b o n h _ => a b o n h
theorem OffN.ext {r : Addr} {H H' : Hp} (a : ExtN H H') : OffN r H H' := fun b o _ h t => a b o h t
theorem OffN.same {r : Addr} {H H' : Hp} (a : Same H H') : OffN r H H' := fun b o _ h _ => a b o h
theorem OffN.lst {r a : Addr} {H H' : Hp} {xs : List V} (x : OffN r H H') (n : a ≠ r) (e : H a = some (.lst xs)) : H' a = some (.lst xs) := x a _ n e (by intro ps z; cases z)
theorem OffN.tup {r a : Addr} {H H' : Hp} {xs : List V} (x : OffN r H H') (n : a ≠ r) (e : H a = some (.tup xs)) : H' a = some (.tup xs) := x a _ n e (by intro ps z; cases z)
theorem OffN.mut {r p : Addr} {H H' : Hp} {o : HO} (e : OffN r H H') (h : H p = none) : OffN r H (upd H' p o) := fun a u n ha t => by
  rw [upd_ne (ne_of_none ha h)]
  exact e a u n ha t
/-! ### texts as data -/
theorem dpAll_str {K : PySem.W.Frag} {H : Hp} : ∀ xs : List Str, DpAll K H (xs.map V.str) (xs.map PyData.str)
  | [] => .nil
  | c :: r => .cons (.str _) (dpAll_str r)
theorem canAll_str : ∀ xs : List Str, (∀ x ∈ xs, PyData.strOk x = true) → PyData.canLayAll0 (xs.map PyData.str) = true
  | [], _ => rfl
  | x :: r, h => by
    have h1 := h x List.mem_cons_self
    have h2 := canAll_str r fun y hy => h y (List.mem_cons_of_mem _ hy)
    simp [PyData.canLayAll0, PyData.canLay0, h1, h2]
theorem depthAll_str : ∀ xs : List Str, PyData.depthAll (xs.map PyData.str) = 0
  | [] => rfl
  | _ :: r => by simp [PyData.depthAll, PyData.depth, depthAll_str r]
theorem shaped_strs (xs : List Str) (h : ∀ x ∈ xs, PyData.strOk x = true) : SeqAt.shaped (.list (xs.map PyData.str)) = true := by
  simp [SeqAt.shaped, PyData.canLay0, PyData.depth, canAll_str xs h, depthAll_str]
theorem eqv_strs (xs : List Str) : PyData.eqv (.list (xs.map PyData.str)) (.list (xs.map PyData.str)) = true := by
  have h : PyData.eqvAll (xs.map PyData.str) (xs.map PyData.str) = true := by
    induction xs with
    | nil => rfl
    | cons x r ih => simp [PyData.eqvAll, PyData.eqv, ih]
  simp [PyData.eqv, h]
theorem eqv_nilS (xs : List Str) : PyData.eqv (.list (xs.map PyData.str)) (.list []) = decide (xs = []) := by
  cases xs with
  | nil => rfl
  | cons x r => simp [PyData.eqv, PyData.eqvAll]
theorem strOk_in {z x : Str} (hz : IsLet z) (h : ∀ c ∈ x.cps.toList, c ∈ z.cps.toList) : PyData.strOk x = true := by
  unfold PyData.strOk
  rw [Array.all_eq_true']
  intro c hc
  have := (hz.small c (h c (Array.mem_toList_iff.mpr hc))).2
  simp
  omega
theorem flat_vS : ∀ ws : List Str, (vS ws).all flatV = true
  | [] => rfl
  | _ :: r => flat_vS r
theorem inV_vS (x : Str) : ∀ ws : List Str, inV (.str x) (vS ws) = decide (x ∈ ws)
  | [] => rfl
  | a :: r => by
    show ((decide (a = x)) || inV (.str x) (vS r)) = _
    rw [inV_vS x r]
    by_cases e : a = x
    · subst e
      simp
    · have e2 : ¬ x = a := fun q => e q.symm
      simp [e, e2]
end LH

namespace LH
open PySem PySem.Spec PyProof.Rows L2 NdefX LamX LU
section
variable {P : Program} {w : World} {K : PySem.W.Frag} {mg : Str → Option Value} {base : Heap}
def sp_last_windows : Sp := fun vs H Q _ => ∃ (h : List Nat) (n : Nat), vs = [.str (txt h), .int (n : Int)] ∧ 1 ≤ n ∧ n ≤ 10 ∧ h.length = n - 1 ∧
  ∀ H' p, Same H H' → H p = none → H' p = some (.lst (vS ((List.range (n - 1)).map fun k => txt (win n (h ++ List.replicate (n - 1) 36) k)))) → Q (.ref p) H'
theorem ok_last_windows (T : TX K mg) : FnOk P w K mg base CX0 1 T.a_last_windows T.fd_last_windows ["held", "size"] sp_last_windows := by
  refine T.F_last_windows.ok sc_last_windows (fun vs H Q E h => ?_) (fun cdv A outer s H vs Q E hr h => ?_)
  · obtain ⟨h, n, rfl, _⟩ := h
    rfl
  · obtain ⟨h, n, rfl, n1, n10, hl, q⟩ := h
    refine ⟨_, (pss_cons (ps_set (i := 2) sc_last_windows.nd rfl (Or.inr rfl) (pe_op op_add_str (pv 0) (pe_op op_repZ (pe_glob (v := .str "$") (by rfl) T.c_BACK ⟨_, rfl⟩) (pe_op op_sub (pv 1) pe_int))))
      (pss_one (ps_ret (pe_lc (own := [("at", 3)]) (g := gName 3) (tt := tYes) (by rfl) sc_last_windows.nd (pi_range1 (by rfl) T.m_range (pa_cons (pe_op op_sub (pv 1) pe_int) pa_nil)) (blkOk_by (own := [("at", 3)]) (N := N_last_windows) (by kernel_rfl)) (fun _ _ _ _ _ => (pg_name (i := 3) sc_last_windows.nd rfl (by first | exact Or.inl rfl | exact Or.inr rfl))) (fun _ _ _ _ _ => pts_nil) (fun _ _ _ _ _ => (pe_slice sl_str (pv 2) (po_some (pv 3)) (po_some (pe_op op_add (pv 3) (pv 1))))))))), ?_⟩
    have sl : ∀ m, m ≤ 1000000 → m ≤ sizeLine := fun m hm => Nat.le_trans hm (by decide)
    have en : ((n : Int) - 1).toNat = n - 1 := by omega
    have r2 : (repS (Str.ofString "$") ((n : Int) - 1).toNat) = txt (List.replicate (n - 1) 36) := by rw [en, s_back, repS_sg]
    refine ⟨.str (txt h), rfl, .int (n : Int), rfl, (n : Int), 1, rfl, rfl, Str.ofString "$", (n : Int) - 1, rfl, rfl, by omega, by omega, by decide, ?_⟩
    rw [r2]
    have el : (h ++ List.replicate (n - 1) 36).length = 2 * (n - 1) := by rw [List.length_append, List.length_replicate]; omega
    refine ⟨txt h, _, rfl, rfl, sl _ (by rw [txt_len, txt_len, List.length_replicate]; omega), ?_⟩
    rw [txt_app]
    refine ⟨.int (n : Int), rfl, (n : Int), 1, rfl, rfl, (n : Int) - 1, rfl, by omega, by omega, fun D nD => ?_⟩
    refine lc_range (lo := 0) (n := ((n : Int) - 1).toNat) (fun i H' => Same H H' ∧ H' D = some (.lst (vS ((List.range i).map fun k => txt (win n (h ++ List.replicate (n - 1) 36) k))))) ⟨same_new nD, upd_same⟩ (fun i H1 hi hW => ?_) (fun H1 hW => ?_)
    · obtain ⟨s1, e1⟩ := hW
      refine ⟨rfl, lcyes ?_⟩
      refine ⟨.str _, rfl, .int (0 + (i : Int)), rfl, 0 + (i : Int), rfl, .int (0 + (i : Int)), rfl, .int (n : Int), rfl, _, _, rfl, rfl, _, rfl, _, rfl, sl _ (by rw [txt_len, el]; omega), _, e1, ?_, same_putN s1 nD, ?_⟩
      · rw [List.length_map, List.length_map, List.length_range]
        exact Nat.lt_of_le_of_lt (show i ≤ 10000 by omega) (by decide)
      · rw [upd_same, vS_snoc, List.range_succ, List.map_append, Int.zero_add, cut_win (by rw [el]; omega)]
        rfl
    · obtain ⟨s1, e1⟩ := hW
      rw [en] at e1
      exact q H1 D s1 nD e1
/-! ### follow, is_end -/
end
end LH

namespace LH
open PySem PySem.Spec PyProof.Rows L2 NdefX LamX LU
def wl (A : List Nat) : Nat → List (List Nat)
  | 0 => [[]]
  | m + 1 => (wl A m).flatMap fun y => A.map fun c => y ++ [c]
theorem wl_len (A : List Nat) : ∀ m, (wl A m).length = A.length ^ m
  | 0 => rfl
  | m + 1 => by
    show ((wl A m).flatMap fun y => A.map fun c => y ++ [c]).length = _
    have go : ∀ l : List (List Nat), (l.flatMap fun y => A.map fun c => y ++ [c]).length = l.length * A.length := by
      intro l
      induction l with
      | nil => simp
      | cons x r ih => rw [List.flatMap_cons, List.length_append, ih, List.length_map, List.length_cons, Nat.add_mul, Nat.one_mul, Nat.add_comm]
    rw [go, wl_len A m, Nat.pow_succ]
theorem mem_wl (A : List Nat) : ∀ (m : Nat) (x : List Nat), x ∈ wl A m ↔ x.length = m ∧ ∀ c ∈ x, c ∈ A
  | 0, x => by
    show x ∈ [[]] ↔ _
    rw [List.mem_singleton]
    constructor
    · rintro rfl
      exact ⟨rfl, fun _ h => nomatch h⟩
    · rintro ⟨h, _⟩
      exact List.length_eq_zero_iff.mp h
  | m + 1, x => by
    show x ∈ (wl A m).flatMap _ ↔ _
    rw [List.mem_flatMap]
    constructor
    · rintro ⟨y, hy, hx⟩
      obtain ⟨c, hc, rfl⟩ := List.mem_map.mp hx
      obtain ⟨a, b⟩ := (mem_wl A m y).mp hy
      refine ⟨by rw [List.length_append, a]; rfl, fun d hd => ?_⟩
      rcases List.mem_append.mp hd with q | q
      · exact b d q
      · rw [List.mem_singleton.mp q]
        exact hc
    · rintro ⟨h, k⟩
      have hne : x ≠ [] := fun e => by rw [e] at h; cases h
      have e := List.dropLast_concat_getLast hne
      refine ⟨x.dropLast, (mem_wl A m _).mpr ⟨by rw [List.length_dropLast, h]; rfl, fun c hc => k c (List.dropLast_subset _ hc)⟩, List.mem_map.mpr ⟨x.getLast hne, k _ (List.getLast_mem hne), e⟩⟩
theorem wl_nd {A : List Nat} (nd : A.Nodup) : ∀ m, (wl A m).Nodup
  | 0 => by show ([[]] : List (List Nat)).Nodup; simp
  | m + 1 => by
    show ((wl A m).flatMap fun y => A.map fun c => y ++ [c]).Nodup
    have ih := wl_nd nd m
    have go : ∀ l : List (List Nat), l.Nodup → (l.flatMap fun y => A.map fun c => y ++ [c]).Nodup := by
      intro l
      induction l with
      | nil => intro _; simp
      | cons x r ih =>
        intro hl
        obtain ⟨h1, h2⟩ := List.nodup_cons.mp hl
        rw [List.flatMap_cons, List.nodup_append]
        refine ⟨List.pairwise_map.mpr (nd.imp fun ne e => ne (by simpa using e)), ih h2, fun a ha b hb e => ?_⟩
        obtain ⟨c, _, rfl⟩ := List.mem_map.mp ha
        obtain ⟨y, hy, hb⟩ := List.mem_flatMap.mp hb
        obtain ⟨d, _, rfl⟩ := List.mem_map.mp hb
        have : x = y := (List.append_inj' e rfl).1
        exact h1 (this ▸ hy)
    exact go _ ih
def frt (n : Nat) (w : List Nat) : List Nat := List.replicate (n - 1) 94 ++ w
theorem frt_len (n : Nat) (w : List Nat) : (frt n w).length = n - 1 + w.length := by
  unfold frt
  rw [List.length_append, List.length_replicate]
/-- all windows that end within the word are there -/
theorem win_left {n k : Nat} {a b : List Nat} (h : k + n ≤ a.length) : win n (a ++ b) k = win n a k := by
  unfold win
  rw [List.drop_append_of_le_length (by omega), List.take_append_of_le_length (by rw [List.length_drop]; omega)]
theorem win_right {n k : Nat} {a b : List Nat} (h : a.length ≤ k) : win n (a ++ b) k = win n b (k - a.length) := by
  unfold win
  congr 1
  rw [List.drop_append, List.drop_of_length_le h, List.nil_append]
theorem win_at {n m k : Nat} {a : List Nat} : win n (a.drop m) k = win n a (m + k) := by
  unfold win
  rw [List.drop_drop]
end LH

namespace LH
open PySem PySem.Spec PyProof.Rows L2 NdefX LamX LU
/-! ### the windows of a machine's words -/
def WinOf (M : Mach) (n : Nat) (x : Str) : Prop := ∃ cs : List Nat, (∀ c ∈ cs, c ∈ M.z.cps.toList) ∧ M.has cs = true ∧ ∃ k, k < cs.length + n - 1 ∧ x = txt (win n (framed n cs) k)
/-- the signs that count behind a word -/
def heldOf (n : Nat) (cs : List Nat) : List Nat := (frt n cs).drop cs.length
theorem heldOf_len (n : Nat) (cs : List Nat) : (heldOf n cs).length = n - 1 := by
  unfold heldOf
  rw [List.length_drop, frt_len]
  omega
theorem held_front {n : Nat} {v : List Nat} (h : v.length ≤ n - 1) : heldOf n v = List.replicate (n - 1 - v.length) 94 ++ v := by
  unfold heldOf frt
  rw [List.drop_append_of_le_length (by rw [List.length_replicate]; exact h), List.drop_replicate]
theorem held_far {n : Nat} {u v : List Nat} (h : v.length = n - 1) : heldOf n (u ++ v) = v := by
  unfold heldOf frt
  rw [← List.append_assoc, List.drop_append, List.length_append, List.length_append, List.length_replicate]
  rw [List.drop_of_length_le (by rw [List.length_append, List.length_replicate]; omega), List.nil_append, show u.length + v.length - (n - 1 + u.length) = 0 by omega, List.drop_zero]
theorem win_mid {n k : Nat} {cs : List Nat} {d : Nat} (n1 : 1 ≤ n) (h : cs[k]? = some d) : win n (framed n cs) k = heldOf n (cs.take k) ++ [d] := by
  have hk := (List.getElem?_eq_some_iff.mp h).1
  have e1 : framed n cs = frt n cs ++ List.replicate (n - 1) 36 := rfl
  have e2 : cs = cs.take k ++ [d] ++ cs.drop (k + 1) := by
    conv => lhs; rw [← List.take_append_drop (k + 1) cs]
    rw [List.take_add_one, h]
    rfl
  have e3 : frt n cs = (frt n (cs.take k) ++ [d]) ++ cs.drop (k + 1) := by
    conv => lhs; rw [e2]
    unfold frt
    rw [← List.append_assoc, ← List.append_assoc]
  have lt : (cs.take k).length = k := by rw [List.length_take]; omega
  have lf : (frt n (cs.take k)).length = n - 1 + k := by rw [frt_len, lt]
  rw [e1, e3, List.append_assoc, win_left (by rw [List.length_append, lf]; show k + n ≤ n - 1 + k + 1; omega)]
  unfold win heldOf
  rw [lt, List.drop_append_of_le_length (by rw [lf]; omega), List.take_of_length_le]
  rw [List.length_append, List.length_drop, lf]
  show n - 1 + k - k + 1 ≤ n
  omega
theorem win_end {n k : Nat} (cs : List Nat) : win n (heldOf n cs ++ List.replicate (n - 1) 36) k = win n (framed n cs) (cs.length + k) := by
  have e1 : framed n cs = frt n cs ++ List.replicate (n - 1) 36 := rfl
  rw [e1, ← win_at, List.drop_append_of_le_length (by rw [frt_len]; omega)]
  rfl
section
variable {M : Mach} {us : List Nat}
abbrev AllIn (z : Str) (cs : List Nat) : Prop := ∀ c ∈ cs, c ∈ z.cps.toList
theorem step_in (k : M.Ok) {s d : Nat} (h : s < M.rows.length) (hd : d ∈ M.z.cps.toList) : (RM M s)[M.z.cps.toList.idxOf d]? = some (M.step s d) ∧ M.step s d < M.rows.length := by
  obtain ⟨row, er, ei, hl⟩ := k.step_at h hd
  rw [RM_row h] at er
  cases er
  exact ⟨ei, hl⟩
theorem fold_lt (k : M.Ok) {cs : List Nat} {s : Nat} (h : s < M.rows.length) (hc : AllIn M.z cs) : cs.foldl M.step s < M.rows.length := k.run_lt cs s h hc
theorem fold_snoc (v : List Nat) (d s : Nat) : (v ++ [d]).foldl M.step s = M.step (v.foldl M.step s) d := by
  rw [List.foldl_append]
  rfl
theorem rch_lt (k : M.Ok) {s : Nat} (h : RchS (RM M) 0 s) : s < M.rows.length := by
  induction h with
  | refl => exact k.many
  | step _ ht ih => exact (k.row _ (List.mem_of_getElem? (RM_row ih))).2 _ ht
theorem rch_fold (k : M.Ok) : ∀ (cs : List Nat) (s : Nat), RchS (RM M) 0 s → AllIn M.z cs → RchS (RM M) 0 (cs.foldl M.step s)
  | [], s, h, _ => h
  | c :: cs, s, h, hc => rch_fold k cs (M.step s c) (.step h (List.mem_of_getElem? (step_in k (rch_lt k h) (hc c List.mem_cons_self)).1)) fun d hd => hc d (List.mem_cons_of_mem _ hd)
theorem rch_word (k : M.Ok) {s : Nat} (h : RchS (RM M) 0 s) : ∃ cs, AllIn M.z cs ∧ M.run cs = s := by
  induction h with
  | refl => exact ⟨[], (fun _ h => nomatch h), rfl⟩
  | step h ht ih =>
    obtain ⟨cs, a, b⟩ := ih
    obtain ⟨i, hi⟩ := List.mem_iff_getElem?.mp ht
    obtain ⟨_, h2, h3⟩ := step_of k (rch_lt k h) hi
    exact ⟨cs ++ [M.z.cps.toList.getD i 0], mem_snoc a h2, by rw [run_app, b, h3]⟩
theorem lds_word (k : M.Ok) {s : Nat} (h : LdS (RM M) (finM M) s) : s < M.rows.length → ∃ cs, AllIn M.z cs ∧ finM M (cs.foldl M.step s) = true := by
  induction h with
  | stop h => exact fun _ => ⟨[], (fun _ h => nomatch h), h⟩
  | step ht _ ih =>
    intro hl
    obtain ⟨i, hi⟩ := List.mem_iff_getElem?.mp ht
    obtain ⟨_, h2, h3⟩ := step_of k hl hi
    obtain ⟨cs, a, b⟩ := ih (by rw [← h3]; exact (step_in k hl h2).2)
    exact ⟨M.z.cps.toList.getD i 0 :: cs, (fun c hc => (List.mem_cons.mp hc).elim (fun e => e ▸ h2) (a c)), by rw [← h3] at b; exact b⟩
theorem lds_fold (k : M.Ok) : ∀ (cs : List Nat) (s : Nat), s < M.rows.length → AllIn M.z cs → finM M (cs.foldl M.step s) = true → LdS (RM M) (finM M) s
  | [], _, _, _, h => .stop h
  | c :: cs, s, hs, hc, h => by
    obtain ⟨a, b⟩ := step_in k hs (hc c List.mem_cons_self)
    exact .step (List.mem_of_getElem? a) (lds_fold k cs _ b (fun d hd => hc d (List.mem_cons_of_mem _ hd)) h)
/-- a place of a word that it has is one that is come to and leads on -/
theorem part_in (k : M.Ok) (uo : UsOk (RM M) (finM M) 0 M.rows.length us) {cs : List Nat} (h : AllIn M.z cs) (e : M.has cs = true) (i : Nat) : M.run (cs.take i) ∈ us := by
  have ht : AllIn M.z (cs.take i) := fun c hc => h c (List.mem_of_mem_take hc)
  refine (uo.mem _).mpr ⟨rch_fold k _ 0 .refl ht, lds_fold k (cs.drop i) _ (fold_lt k k.many ht) (fun c hc => h c (List.mem_of_mem_drop hc)) ?_⟩
  show finM M ((cs.drop i).foldl M.step ((cs.take i).foldl M.step 0)) = true
  rw [← List.foldl_append, List.take_append_drop]
  exact e
/-! ### pairs of signs and numbers -/
def Hw (M : Mach) (us : List Nat) (front : Bool) (v : List Nat) (i : Nat) : Prop := ∃ t, RchS (RM M) 0 t ∧ (front = true → t = 0) ∧ us[i]? = some (v.foldl M.step t)
structure WpInv (M : Mach) (us : List Nat) (front : Bool) (pre : List Nat) (t : Nat) (qs : List (List Nat × List Nat)) : Prop where
  len : qs.length ≤ M.z.length ^ t
  sound : ∀ q ∈ qs, ∃ v, v.length = t ∧ AllIn M.z v ∧ q.1 = pre ++ v ∧ ∀ i ∈ q.2, Hw M us front v i
  whole : ∀ v i, v.length = t → AllIn M.z v → Hw M us front v i → ∃ q ∈ qs, q.1 = pre ++ v ∧ i ∈ q.2
  size : ∀ q ∈ qs, q.2.length ≤ us.length
def nextQ (us : List Nat) (R : Nat → List Nat) (z : Str) (q : List Nat × List Nat) (c : Nat) : List Nat × List Nat := (q.1 ++ [z.cps.toList.getD c 0], addL [] (q.2.map fun i => cellU us R i c).flatten)
def rowQ (us : List Nat) (R : Nat → List Nat) (z : Str) (q : List Nat × List Nat) (c : Nat) : List (List Nat × List Nat) := ((List.range c).map (nextQ us R z q)).filter fun p => decide (0 < p.2.length)
def oneL (us : List Nat) (R : Nat → List Nat) (z : Str) (L : Nat) (qs : List (List Nat × List Nat)) : List (List Nat × List Nat) := qs.flatMap fun q => rowQ us R z q L
theorem rowQ_len (us : List Nat) (R : Nat → List Nat) (z : Str) (q : List Nat × List Nat) (c : Nat) : (rowQ us R z q c).length ≤ c := by
  unfold rowQ
  have := List.length_filter_le (fun p : List Nat × List Nat => decide (0 < p.2.length)) ((List.range c).map (nextQ us R z q))
  rw [List.length_map, List.length_range] at this
  exact this
theorem oneL_len (us : List Nat) (R : Nat → List Nat) (z : Str) (L : Nat) : ∀ qs, (oneL us R z L qs).length ≤ qs.length * L
  | [] => Nat.zero_le _
  | q :: qs => by
    have a := oneL_len us R z L qs
    have b := rowQ_len us R z q L
    show (rowQ us R z q L ++ oneL us R z L qs).length ≤ (qs.length + 1) * L
    rw [List.length_append, Nat.add_mul, Nat.one_mul]
    omega
theorem sgn_idx (k : M.Ok) {c : Nat} (hc : c < M.z.length) : M.z.cps.toList.getD c 0 ∈ M.z.cps.toList := by
  have hl : c < M.z.cps.toList.length := by rw [Array.length_toList]; exact hc
  rw [List.getD_eq_getElem?_getD, List.getElem?_eq_getElem hl]
  exact List.getElem_mem hl
theorem idx_sgn {z : Str} {d : Nat} (hd : d ∈ z.cps.toList) : z.cps.toList.idxOf d < z.length ∧ z.cps.toList.getD (z.cps.toList.idxOf d) 0 = d := by
  have hl := List.idxOf_lt_length_iff.mpr hd
  refine ⟨by rw [Array.length_toList] at hl; exact hl, ?_⟩
  rw [List.getD_eq_getElem?_getD, List.getElem?_eq_getElem hl, List.getElem_idxOf]
  rfl
theorem us_len (uo : UsOk (RM M) (finM M) 0 M.rows.length us) : us.length ≤ M.rows.length := by
  have := len_le_of_sub uo.nd (ys := List.range M.rows.length) fun x hx => List.mem_range.mpr (uo.lt x hx)
  rwa [List.length_range] at this
theorem hR_of (k : M.Ok) : ∀ s, s < M.rows.length → (RM M s).length = M.z.length := fun s h => (k.row _ (List.mem_of_getElem? (RM_row h))).1
theorem WpInv.next (k : M.Ok) (uo : UsOk (RM M) (finM M) 0 M.rows.length us) {front : Bool} {pre : List Nat} {t : Nat} {qs : List (List Nat × List Nat)} (h : WpInv M us front pre t qs) : WpInv M us front pre (t + 1) (oneL us (RM M) M.z M.z.length qs) := by
  refine ⟨?_, fun q' hq0 => ?_, fun v' x hv hin hw => ?_, fun q' hq0 => ?_⟩
  · rw [Nat.pow_succ]
    exact Nat.le_trans (oneL_len _ _ _ _ _) (Nat.mul_le_mul_right _ h.len)
  · obtain ⟨q, hq, hr⟩ := List.mem_flatMap.mp hq0
    obtain ⟨c, hc, rfl⟩ := List.mem_map.mp (List.mem_filter.mp hr).1
    have hc := List.mem_range.mp hc
    obtain ⟨v, hv, hin, e1, hs⟩ := h.sound q hq
    refine ⟨v ++ [M.z.cps.toList.getD c 0], by rw [List.length_append, hv]; rfl, mem_snoc hin (sgn_idx k hc), ?_, fun x hx => ?_⟩
    · show q.1 ++ [_] = _
      rw [e1, List.append_assoc]
    · rcases mem_addL.mp hx with z | z
      · cases z
      · obtain ⟨ys, h1, h2⟩ := List.mem_flatten.mp z
        obtain ⟨i, hi, rfl⟩ := List.mem_map.mp h1
        obtain ⟨t0, r0, f0, hu⟩ := hs i hi
        obtain ⟨s', a, b⟩ := (mem_cellU uo (hR_of k) hu hc).mp h2
        refine ⟨t0, r0, f0, ?_⟩
        rw [b, fold_snoc, (step_of k (uo.lt _ (List.mem_of_getElem? hu)) a).2.2]
  · have hne : v' ≠ [] := fun z => by rw [z] at hv; cases hv
    obtain ⟨v, d, rfl⟩ : ∃ v d, v' = v ++ [d] := ⟨v'.dropLast, v'.getLast hne, (List.dropLast_concat_getLast hne).symm⟩
    rw [List.length_append] at hv
    obtain ⟨t0, r0, f0, hu⟩ := hw
    rw [fold_snoc] at hu
    have hvin : AllIn M.z v := fun c hc => hin c (List.mem_append_left _ hc)
    have hd := hin d (List.mem_append_right _ (by simp))
    have rs := rch_fold k v t0 r0 hvin
    obtain ⟨a, b⟩ := step_in k (rch_lt k rs) hd
    have su := (uo.mem (v.foldl M.step t0)).mpr ⟨rs, .step (List.mem_of_getElem? a) ((uo.mem _).mp (List.mem_of_getElem? hu)).2⟩
    obtain ⟨q, hq, e1, hi⟩ := h.whole v _ (Nat.succ.inj hv) hvin ⟨t0, r0, f0, at_idx su⟩
    obtain ⟨hc, ec⟩ := idx_sgn hd
    have hx : x ∈ cellU us (RM M) (us.idxOf (v.foldl M.step t0)) (M.z.cps.toList.idxOf d) := (mem_cellU uo (hR_of k) (at_idx su) hc).mpr ⟨_, a, hu⟩
    have hx2 : x ∈ (nextQ us (RM M) M.z q (M.z.cps.toList.idxOf d)).2 := mem_addL.mpr (.inr (List.mem_flatten.mpr ⟨_, List.mem_map.mpr ⟨_, hi, rfl⟩, hx⟩))
    refine ⟨nextQ us (RM M) M.z q (M.z.cps.toList.idxOf d), List.mem_flatMap.mpr ⟨q, hq, List.mem_filter.mpr ⟨List.mem_map.mpr ⟨_, List.mem_range.mpr hc, rfl⟩, decide_eq_true (List.length_pos_iff.mpr fun z => by rw [z] at hx2; cases hx2)⟩⟩, ?_, hx2⟩
    show q.1 ++ [_] = _
    rw [ec, e1, List.append_assoc]
  · obtain ⟨q, hq, hr⟩ := List.mem_flatMap.mp hq0
    obtain ⟨c, hc, rfl⟩ := List.mem_map.mp (List.mem_filter.mp hr).1
    refine addL_lt List.nodup_nil (fun _ h => nomatch h) fun x hx => ?_
    obtain ⟨ys, h1, h2⟩ := List.mem_flatten.mp hx
    obtain ⟨i, _, rfl⟩ := List.mem_map.mp h1
    exact cellU_lt h2
theorem WpInv.lt {front : Bool} {pre : List Nat} {t : Nat} {qs : List (List Nat × List Nat)} (h : WpInv M us front pre t qs) : ∀ q ∈ qs, ∀ i ∈ q.2, i < us.length := fun q hq i hi => by
  obtain ⟨v, _, _, _, hs⟩ := h.sound q hq
  obtain ⟨_, _, _, e⟩ := hs i hi
  exact (List.getElem?_eq_some_iff.mp e).1
/-- the first pair -/
def firstQ (us : List Nat) (front : Bool) (pre : List Nat) : List Nat × List Nat := (pre, if front = true then (if 0 ∈ us then [us.idxOf 0] else []) else List.range us.length)
theorem WpInv.first (k : M.Ok) (uo : UsOk (RM M) (finM M) 0 M.rows.length us) (front : Bool) (pre : List Nat) : WpInv M us front pre 0 [firstQ us front pre] := by
  have at0 : ∀ i, i ∈ (firstQ us front pre).2 ↔ Hw M us front [] i := fun i => by
    unfold firstQ
    cases front with
    | true =>
      show i ∈ (if 0 ∈ us then [us.idxOf 0] else []) ↔ _
      by_cases h : 0 ∈ us
      · rw [if_pos h, List.mem_singleton]
        constructor
        · rintro rfl
          exact ⟨0, .refl, fun _ => rfl, at_idx h⟩
        · rintro ⟨t, _, f, e⟩
          obtain rfl := f rfl
          exact idx_at uo.nd e
      · rw [if_neg h]
        constructor
        · intro z; cases z
        · rintro ⟨t, _, f, e⟩
          obtain rfl := f rfl
          exact absurd (List.mem_of_getElem? e) h
    | false =>
      show i ∈ List.range us.length ↔ _
      rw [List.mem_range]
      constructor
      · intro h
        exact ⟨us[i], ((uo.mem _).mp (List.getElem_mem h)).1, (fun z => nomatch z), List.getElem?_eq_getElem h⟩
      · rintro ⟨t, _, _, e⟩
        exact (List.getElem?_eq_some_iff.mp e).1
  refine ⟨Nat.le_refl _, fun q hq => ?_, fun v i hv _ hw => ?_, fun q hq => ?_⟩
  · rw [List.mem_singleton.mp hq]
    exact ⟨[], rfl, (fun _ h => nomatch h), (List.append_nil _).symm, fun i hi => (at0 i).mp hi⟩
  · rw [List.length_eq_zero_iff.mp hv] at hw ⊢
    exact ⟨_, List.mem_singleton.mpr rfl, (List.append_nil _).symm, (at0 i).mpr hw⟩
  · rw [List.mem_singleton.mp hq]
    unfold firstQ
    cases front with
    | true =>
      show (if 0 ∈ us then [us.idxOf 0] else []).length ≤ _
      by_cases h : 0 ∈ us
      · rw [if_pos h]
        exact List.length_pos_iff.mpr fun e => by rw [e] at h; cases h
      · rw [if_neg h]
        exact Nat.zero_le _
    | false =>
      show (List.range us.length).length ≤ _
      rw [List.length_range]
      exact Nat.le_refl _
/-! ### all pairs -/
structure WrInv (M : Mach) (us : List Nat) (n m : Nat) (qs : List (List Nat × List Nat)) : Prop where
  len : qs.length ≤ m * M.z.length ^ n
  held : ∀ q ∈ qs, q.1.length = n - 1
  sound : ∀ q ∈ qs, ∀ i ∈ q.2, ∃ cs, AllIn M.z cs ∧ q.1 = heldOf n cs ∧ us[i]? = some (M.run cs)
  whole : ∀ cs i, AllIn M.z cs → (cs.length < m ∨ m = n) → us[i]? = some (M.run cs) → ∃ q ∈ qs, q.1 = heldOf n cs ∧ i ∈ q.2
  size : ∀ q ∈ qs, q.2.length ≤ us.length
theorem WrInv.zero {n : Nat} (n1 : 1 ≤ n) : WrInv M us n 0 [] := ⟨Nat.zero_le _, (fun _ h => nomatch h), (fun _ h => nomatch h), (fun cs i _ h _ => by omega), fun _ h => nomatch h⟩
theorem WrInv.next (k : M.Ok) {n m : Nat} (hm : m < n) {qs ps : List (List Nat × List Nat)} (h : WrInv M us n m qs) (p : WpInv M us (decide (0 < n - 1 - m)) (List.replicate (n - 1 - m) 94) m ps) : WrInv M us n (m + 1) (qs ++ ps) := by
  refine ⟨?_, fun q hq => ?_, fun q hq i hi => ?_, fun cs i hin hl hu => ?_, fun q hq => ?_⟩
  · have a := h.len
    have b := p.len
    have c : M.z.length ^ m ≤ M.z.length ^ n := Nat.pow_le_pow_right k.let_.one (by omega)
    rw [List.length_append, Nat.add_mul, Nat.one_mul]
    omega
  · rcases List.mem_append.mp hq with hq | hq
    · exact h.held q hq
    · obtain ⟨v, hv, _, e, _⟩ := p.sound q hq
      rw [e, List.length_append, List.length_replicate, hv]
      omega
  · rcases List.mem_append.mp hq with hq | hq
    · exact h.sound q hq i hi
    · obtain ⟨v, hv, hin, e, hs⟩ := p.sound q hq
      obtain ⟨t, rt, ft, hu⟩ := hs i hi
      by_cases z : 0 < n - 1 - m
      · obtain rfl := ft (decide_eq_true z)
        exact ⟨v, hin, by rw [e, held_front (by omega), hv], hu⟩
      · obtain ⟨u, hu1, rfl⟩ := rch_word k rt
        refine ⟨u ++ v, fun c hc => (List.mem_append.mp hc).elim (hu1 c) (hin c), ?_, ?_⟩
        · rw [e, held_far (by omega), show n - 1 - m = 0 by omega]
          rfl
        · rw [hu]
          unfold Mach.run
          rw [List.foldl_append]
  · by_cases q : cs.length < m
    · obtain ⟨r, hr, a⟩ := h.whole cs i hin (.inl q) hu
      exact ⟨r, List.mem_append_left _ hr, a⟩
    · by_cases q2 : 0 < n - 1 - m
      · have e : cs.length = m := by omega
        obtain ⟨r, hr, a, b⟩ := p.whole cs i e hin ⟨0, .refl, fun _ => rfl, hu⟩
        exact ⟨r, List.mem_append_right _ hr, by rw [a, held_front (by omega), e], b⟩
      · have e : m = n - 1 := by omega
        have ec : cs.take (cs.length - m) ++ cs.drop (cs.length - m) = cs := List.take_append_drop _ _
        have ld : (cs.drop (cs.length - m)).length = m := by rw [List.length_drop]; omega
        obtain ⟨r, hr, a, b⟩ := p.whole (cs.drop (cs.length - m)) i ld (fun c hc => hin c (List.mem_of_mem_drop hc)) ⟨M.run (cs.take (cs.length - m)), rch_fold k _ 0 .refl fun c hc => hin c (List.mem_of_mem_take hc), fun z => absurd (of_decide_eq_true z) q2, by
          rw [hu]
          unfold Mach.run
          rw [← List.foldl_append, ec]⟩
        refine ⟨r, List.mem_append_right _ hr, ?_, b⟩
        rw [a, show n - 1 - m = 0 by omega]
        conv => rhs; rw [← ec]
        rw [held_far (by omega)]
        rfl
  · rcases List.mem_append.mp hq with hq | hq
    · exact h.size q hq
    · exact p.size q hq
theorem WrInv.lt {n m : Nat} {qs : List (List Nat × List Nat)} (h : WrInv M us n m qs) : ∀ q ∈ qs, ∀ i ∈ q.2, i < us.length := fun q hq i hi => by
  obtain ⟨_, _, _, e⟩ := h.sound q hq i hi
  exact (List.getElem?_eq_some_iff.mp e).1
/-! ### the windows of all pairs -/
def manyB (us : List Nat) (R : Nat → List Nat) (c i : Nat) : Bool := decide (0 < (cellU us R i c).length)
def finB (us : List Nat) (fin : Nat → Bool) (i : Nat) : Bool := fin (us.getD i 0)
def rowW (us : List Nat) (R : Nat → List Nat) (z : Str) (q : List Nat × List Nat) (c : Nat) : List Str := ((List.range c).filter fun c => q.2.any (manyB us R c)).map fun c => txt (q.1 ++ [z.cps.toList.getD c 0])
def endQ (us : List Nat) (fin : Nat → Bool) (n : Nat) (q : List Nat × List Nat) : List Str := if q.2.any (finB us fin) = true then (List.range (n - 1)).map fun k => txt (win n (q.1 ++ List.replicate (n - 1) 36) k) else []
def winL (us : List Nat) (R : Nat → List Nat) (fin : Nat → Bool) (z : Str) (L n : Nat) (qs : List (List Nat × List Nat)) : List Str := qs.flatMap fun q => rowW us R z q L ++ endQ us fin n q
theorem rowW_len (us : List Nat) (R : Nat → List Nat) (z : Str) (q : List Nat × List Nat) (c : Nat) : (rowW us R z q c).length ≤ c := by
  unfold rowW
  have := List.length_filter_le (fun c => q.2.any (manyB us R c)) (List.range c)
  rw [List.length_map]
  rwa [List.length_range] at this
theorem endQ_len (us : List Nat) (fin : Nat → Bool) (n : Nat) (q : List Nat × List Nat) : (endQ us fin n q).length ≤ n - 1 := by
  unfold endQ
  split
  · rw [List.length_map, List.length_range]
    exact Nat.le_refl _
  · exact Nat.zero_le _
theorem winL_len (us : List Nat) (R : Nat → List Nat) (fin : Nat → Bool) (z : Str) (L n : Nat) : ∀ qs, (winL us R fin z L n qs).length ≤ qs.length * (L + n)
  | [] => Nat.zero_le _
  | q :: qs => by
    have a := winL_len us R fin z L n qs
    have b := rowW_len us R z q L
    have c := endQ_len us fin n q
    show (rowW us R z q L ++ endQ us fin n q ++ winL us R fin z L n qs).length ≤ (qs.length + 1) * (L + n)
    rw [List.length_append, List.length_append, Nat.add_mul, Nat.one_mul]
    omega
theorem winL_iff (k : M.Ok) (uo : UsOk (RM M) (finM M) 0 M.rows.length us) {n : Nat} (n1 : 1 ≤ n) {qs : List (List Nat × List Nat)} (h : WrInv M us n n qs) (x : Str) : x ∈ winL us (RM M) (finM M) M.z M.z.length n qs ↔ WinOf M n x := by
  have gd : ∀ {i s : Nat}, us[i]? = some s → us.getD i 0 = s := fun {i s} e => by rw [List.getD_eq_getElem?_getD, e]; rfl
  constructor
  · intro hx
    obtain ⟨q, hq, hx⟩ := List.mem_flatMap.mp hx
    rcases List.mem_append.mp hx with hx | hx
    · obtain ⟨c, hc, rfl⟩ := List.mem_map.mp hx
      obtain ⟨hc, ha⟩ := List.mem_filter.mp hc
      have hc := List.mem_range.mp hc
      obtain ⟨i, hi, hb⟩ := List.any_eq_true.mp ha
      have hb := of_decide_eq_true hb
      obtain ⟨cs, hin, e1, hu⟩ := h.sound q hq i hi
      obtain ⟨y, hy⟩ := List.exists_mem_of_ne_nil _ (List.length_pos_iff.mp hb)
      obtain ⟨t, ht, hut⟩ := (mem_cellU uo (hR_of k) hu hc).mp hy
      obtain ⟨_, h2, h3⟩ := step_of k (uo.lt _ (List.mem_of_getElem? hu)) ht
      obtain ⟨u, u1, u2⟩ := lds_word k ((uo.mem _).mp (List.mem_of_getElem? hut)).2 (uo.lt _ (List.mem_of_getElem? hut))
      refine ⟨cs ++ M.z.cps.toList.getD c 0 :: u, fun d hd => ?_, ?_, cs.length, ?_, ?_⟩
      · rcases List.mem_append.mp hd with hd | hd
        · exact hin d hd
        · exact (List.mem_cons.mp hd).elim (fun e => e ▸ h2) (u1 d)
      · show finM M ((cs ++ _ :: u).foldl M.step 0) = true
        rw [List.foldl_append, List.foldl_cons]
        show finM M (u.foldl M.step (M.step (M.run cs) _)) = true
        rw [h3]
        exact u2
      · rw [List.length_append, List.length_cons]
        omega
      · rw [win_mid n1 (d := M.z.cps.toList.getD c 0) (by rw [List.getElem?_append_right (Nat.le_refl _), Nat.sub_self]; rfl), List.take_left, e1]
    · unfold endQ at hx
      split at hx
      · rename_i ha
        obtain ⟨j, hj, rfl⟩ := List.mem_map.mp hx
        obtain ⟨i, hi, hb⟩ := List.any_eq_true.mp ha
        obtain ⟨cs, hin, e1, hu⟩ := h.sound q hq i hi
        have hj := List.mem_range.mp hj
        refine ⟨cs, hin, ?_, cs.length + j, by omega, by rw [e1, win_end]⟩
        unfold finB at hb
        rw [gd hu] at hb
        exact hb
      · cases hx
  · rintro ⟨cs, hin, e, j, hj, rfl⟩
    by_cases q : j < cs.length
    · have hd := List.getElem?_eq_getElem q
      have hdm := hin _ (List.getElem_mem q)
      generalize cs[j] = d at hd hdm
      have p1 := part_in k uo hin e j
      have p2 := part_in k uo hin e (j + 1)
      rw [run_snoc M hd] at p2
      have ht : AllIn M.z (cs.take j) := fun c hc => hin c (List.mem_of_mem_take hc)
      obtain ⟨r, hr, a, b⟩ := h.whole (cs.take j) _ ht (.inr rfl) (at_idx p1)
      obtain ⟨hc, ec⟩ := idx_sgn hdm
      obtain ⟨st, _⟩ := step_in k (uo.lt _ p1) hdm
      have hy := (mem_cellU uo (hR_of k) (at_idx p1) hc).mpr ⟨_, st, at_idx p2⟩
      refine List.mem_flatMap.mpr ⟨r, hr, List.mem_append_left _ (List.mem_map.mpr ⟨M.z.cps.toList.idxOf d, List.mem_filter.mpr ⟨List.mem_range.mpr hc, List.any_eq_true.mpr ⟨_, b, decide_eq_true (List.length_pos_iff.mpr fun z => by rw [z] at hy; cases hy)⟩⟩, ?_⟩)⟩
      rw [win_mid n1 hd, a, ec]
    · have p1 := part_in k uo hin e cs.length
      rw [List.take_length] at p1
      obtain ⟨r, hr, a, b⟩ := h.whole cs _ hin (.inr rfl) (at_idx p1)
      refine List.mem_flatMap.mpr ⟨r, hr, List.mem_append_right _ ?_⟩
      unfold endQ
      rw [if_pos (List.any_eq_true.mpr ⟨_, b, by unfold finB; rw [gd (at_idx p1)]; exact e⟩)]
      refine List.mem_map.mpr ⟨j - cs.length, List.mem_range.mpr (by omega), ?_⟩
      rw [a, win_end, show cs.length + (j - cs.length) = j by omega]
end
end LH

namespace LH
open PySem PySem.Spec PyProof.Rows L2 NdefX LamX LU
def CellsW (H : Hp) (wa : Addr) (cas : List Addr) (us : List Nat) (L : Nat) (R : Nat → List Nat) : Prop := H wa = some (.lst (vr cas)) ∧ cas.length = L ∧ ∀ (c : Nat) (ca : Addr), cas[c]? = some ca → ∃ xs : List Addr, H ca = some (.lst (vr xs)) ∧ xs.length = us.length ∧ ∀ (i : Nat) (x : Addr), xs[i]? = some x → H x = some (.lst (vi (cellU us R i c)))
theorem WaysAt.cells {H : Hp} {wa : Addr} {us : List Nat} {L n0 s0 : Nat} {R : Nat → List Nat} {fin : Nat → Bool} (h : WaysAt H wa us L R) (uo : UsOk R fin s0 n0 us) (hR : ∀ s, s < n0 → (R s).length = L) : ∃ cas, CellsW H wa cas us L R := by
  obtain ⟨cas, a, b, h⟩ := h
  refine ⟨cas, a, b, fun c ca hc => ?_⟩
  obtain ⟨xs, x1, x2, x3⟩ := h c ca hc
  refine ⟨xs, x1, x2, fun i x hx => ?_⟩
  have hi := (List.getElem?_eq_some_iff.mp hx).1
  have hs := List.getElem?_eq_getElem (l := us) (i := i) (by omega)
  have hsl := hR _ (uo.lt _ (List.getElem_mem (l := us) (n := i) (by omega)))
  have e1 : us.getD i 0 = us[i]'(by omega) := by rw [List.getD_eq_getElem?_getD, hs]; rfl
  generalize us[i]'(by omega) = s at hs hsl e1
  have hcl := (List.getElem?_eq_some_iff.mp hc).1
  have ht := List.getElem?_eq_getElem (l := R s) (i := c) (by omega)
  have e2 : (R s).getD c 0 = (R s)[c]'(by omega) := by rw [List.getD_eq_getElem?_getD, ht]; rfl
  generalize (R s)[c]'(by omega) = t at ht e2
  have := x3 i x s t hx hs ht
  unfold cellU
  rw [e1, e2]
  exact this
def PairAt (H : Hp) (X : Addr → Prop) (p : Addr) (q : List Nat × List Nat) : Prop := ∃ ha, ¬ X ha ∧ H p = some (.tup [.str (txt q.1), .ref ha]) ∧ H ha = some (.lst (vi q.2))
def PairsAt (H : Hp) (X : Addr → Prop) (ps : List Addr) (qs : List (List Nat × List Nat)) : Prop := ps.length = qs.length ∧ ∀ (k : Nat) (p : Addr) (q : List Nat × List Nat), ps[k]? = some p → qs[k]? = some q → PairAt H X p q
theorem PairAt.mono {H H' : Hp} {X X' : Addr → Prop} {p : Addr} {q : List Nat × List Nat} (t : Tups H H') (l : ∀ b xs, ¬ X b → H b = some (.lst xs) → ¬ X' b ∧ H' b = some (.lst xs)) (h : PairAt H X p q) : PairAt H' X' p q := by
  obtain ⟨ha, a, b, c⟩ := h
  obtain ⟨d, e⟩ := l _ _ a c
  exact ⟨ha, d, t _ _ b, e⟩
theorem PairsAt.mono {H H' : Hp} {X X' : Addr → Prop} {ps : List Addr} {qs : List (List Nat × List Nat)} (t : Tups H H') (l : ∀ b xs, ¬ X b → H b = some (.lst xs) → ¬ X' b ∧ H' b = some (.lst xs)) (h : PairsAt H X ps qs) : PairsAt H' X' ps qs := ⟨h.1, fun k p q a b => (h.2 k p q a b).mono t l⟩
theorem PairsAt.snoc {H : Hp} {X : Addr → Prop} {ps : List Addr} {qs : List (List Nat × List Nat)} {p : Addr} {q : List Nat × List Nat} (h : PairsAt H X ps qs) (g : PairAt H X p q) : PairsAt H X (ps ++ [p]) (qs ++ [q]) := by
  refine ⟨by rw [List.length_append, List.length_append, h.1]; rfl, fun i b r x y => ?_⟩
  by_cases hi : i < ps.length
  · rw [List.getElem?_append_left hi] at x
    rw [List.getElem?_append_left (by rw [← h.1]; exact hi)] at y
    exact h.2 i b r x y
  · rw [List.getElem?_append_right (by omega)] at x
    rw [List.getElem?_append_right (by rw [← h.1]; omega), ← h.1] at y
    have e : i - ps.length = 0 := by
      cases q : i - ps.length with
      | zero => rfl
      | succ k =>
        rw [q] at x
        simp at x
    rw [e] at x y
    cases x
    cases y
    exact g
theorem LstsAt.snoc {H : Hp} {as : List Addr} {nss : List (List Nat)} {a : Addr} {ns : List Nat} (h : LstsAt H as nss) (g : H a = some (.lst (vi ns))) : LstsAt H (as ++ [a]) (nss ++ [ns]) := by
  refine ⟨by rw [List.length_append, List.length_append, h.1]; rfl, fun i b r x y => ?_⟩
  by_cases hi : i < as.length
  · rw [List.getElem?_append_left hi] at x
    rw [List.getElem?_append_left (by rw [← h.1]; exact hi)] at y
    exact h.2 i b r x y
  · rw [List.getElem?_append_right (by omega)] at x
    rw [List.getElem?_append_right (by rw [← h.1]; omega), ← h.1] at y
    have e : i - as.length = 0 := by
      cases q : i - as.length with
      | zero => rfl
      | succ k =>
        rw [q] at x
        simp at x
    rw [e] at x y
    cases x
    cases y
    exact g

def tMid (t : TE) : TE := fun σ H Q => ∃ M : V → Hp → Prop, t σ H M ∧ ∀ v H', M v H' → Q v H'
/-- an expression of which two ways end alike -/
theorem pe_mid {X : Cx} {e : Expr} {t : TE} (h : PE X e t) : PE X e (tMid t) := by
  refine ⟨fun pins s σ H Q I q => ?_⟩
  obtain ⟨M, h1, h2⟩ := q
  refine thn (h.run pins s σ H _ I h1) fun u s1 ⟨x, H1, I1, r, m⟩ => ?_
  exact ⟨x, H1, I1, r, h2 x H1 m⟩
theorem rowQ_succ (us : List Nat) (R : Nat → List Nat) (z : Str) (q : List Nat × List Nat) (c : Nat) : rowQ us R z q (c + 1) = rowQ us R z q c ++ if decide (0 < (nextQ us R z q c).2.length) = true then [nextQ us R z q c] else [] := by
  unfold rowQ
  rw [List.range_succ, List.map_append, List.filter_append]
  congr 1
  show List.filter _ [nextQ us R z q c] = _
  rw [List.filter_cons]
  by_cases h : decide (0 < (nextQ us R z q c).2.length) = true
  · rw [if_pos h, if_pos h]
    rfl
  · rw [if_neg h, if_neg h]
    rfl
theorem oneL_take {us : List Nat} {R : Nat → List Nat} {z : Str} {L k : Nat} {qs : List (List Nat × List Nat)} {q : List Nat × List Nat} (h : qs[k]? = some q) : oneL us R z L (qs.take (k + 1)) = oneL us R z L (qs.take k) ++ rowQ us R z q L := by
  unfold oneL
  rw [List.take_add_one, h, List.flatMap_append]
  simp
section
variable {P : Program} {w : World} {K : PySem.W.Frag} {mg : Str → Option Value} {base : Heap}
/-! ### one_letter_on -/
def sp_one_letter_on : Sp := fun vs H Q _ => ∃ (z : Str) (wa rp : Addr) (L : Nat) (us : List Nat) (R : Nat → List Nat) (cas ps : List Addr) (qs : List (List Nat × List Nat)), vs = [.str z, .ref wa, .ref rp] ∧ CellsW H wa cas us L R ∧ z.length = L ∧ L ≤ 5 ∧ us.length ≤ 100000 ∧ H rp = some (.lst (vr ps)) ∧ PairsAt H (fun _ => False) ps qs ∧ qs.length ≤ 1000 ∧ (∀ q ∈ qs, q.1.length ≤ 100 ∧ q.2.length ≤ 100000 ∧ ∀ i ∈ q.2, i < us.length) ∧
  ∀ H' p ps', Same H H' → H p = none → H' p = some (.lst (vr ps')) → PairsAt H' (fun b => H b ≠ none) ps' (oneL us R z L qs) → Q (.ref p) H'
theorem ok_one_letter_on (T : TX K mg) : FnOk P w K mg base CX0 2 T.a_one_letter_on T.fd_one_letter_on ["letters", "ways", "reached"] sp_one_letter_on := by
  have G_unseen : FnOk P w K mg base CX0 1 T.a_unseen T.fd_unseen ["lists", "seen"] sp_unseen := ok_unseen T
  refine T.F_one_letter_on.ok sc_one_letter_on (fun vs H Q E h => ?_) (fun cdv A outer s H vs Q E hr h => ?_)
  · obtain ⟨z, wa, rp, L, us, R, cas, ps, qs, rfl, _⟩ := h
    rfl
  · obtain ⟨z, wa, rp, L, us, R, cas, ps, qs, rfl, cw0, zl, hL5, hU, erp, its, lqs, okq, q⟩ := h
    refine ⟨_, (pss_cons (ps_set (i := 3) sc_one_letter_on.nd rfl (Or.inl rfl) (pe_lst pa_nil))
      (pss_cons (ps_for PassesOwn.never rfl (pi_listK K rfl (pv 2)) (pg_tupK (n := 2) K rfl (by rfl) (pgs_cons (pg_name (i := 4) sc_one_letter_on.nd rfl (Or.inl rfl)) (pgs_cons (pg_name (i := 5) sc_one_letter_on.nd rfl (Or.inl rfl)) pgs_nil)))
        (pss_one (ps_for PassesOwn.never rfl (pi_zipZL K rfl (by rfl) T.m_zip (pa_cons (pv 0) (pa_cons (pv 1) pa_nil))) (pg_tupK (n := 2) K rfl (by rfl) (pgs_cons (pg_name (i := 6) sc_one_letter_on.nd rfl (Or.inl rfl)) (pgs_cons (pg_name (i := 7) sc_one_letter_on.nd rfl (Or.inr rfl)) pgs_nil)))
            (pss_cons (ps_set (i := 8) sc_one_letter_on.nd rfl (Or.inl rfl) (pe_call G_unseen (hr.mono (by decide)) (by rfl) T.g_unseen T.F_unseen.kp T.b_unseen .nil pass0 (pa_cons (pe_lc (own := [("number", 9)]) (g := gName 9) (tt := tYes) (by rfl) sc_one_letter_on.nd (pi_listK K rfl (pv 5)) (blkOk_by (own := [("number", 9)]) (N := N_one_letter_on) (by kernel_rfl)) (fun _ _ _ _ _ => (pg_name (i := 9) sc_one_letter_on.nd rfl (by first | exact Or.inl rfl | exact Or.inr rfl))) (fun _ _ _ _ _ => pts_nil) (fun _ _ _ _ _ => (pe_ix (ix_listK K rfl) (pv 7) (pv 9) (fun _ _ => rfl)))) (pa_cons pe_dnewK pa_nil))))
              (pss_one (ps_if (pt_cmpR op_gt (pe_callB (call_lenK K rfl) (by rfl) T.m_len (by decide +kernel) (pa_cons (pv 8) pa_nil)) pe_int (nomark _))
                (pss_one (ps_expr (pe_bmK K rfl PySem.F.plainAttrs_list PySem.F.slot_list_append PySem.F.type_list_append mt_append (pv 3) (pa_cons (pe_tup (pa_cons (pe_op op_add_str (pv 4) (pv 6)) (pa_cons (pv 8) pa_nil))) pa_nil))))
                pss_nil))))))
      (pss_one (ps_ret (pv 3))))), ?_⟩
    have sl : ∀ m, m ≤ 1000000 → m < sizeLine := fun m hm => Nat.lt_of_le_of_lt hm (by decide)
    obtain ⟨ewa, lc, cw⟩ := cw0
    refine ⟨by show 0 ≤ sizeLine; decide, fun lo nlo => ?_⟩
    have sL := same_new (o := .lst []) nlo
    have neLo : ∀ b o, H b = some o → b ≠ lo := fun b o e => ne_of_none e nlo
    have hzs : z.cps.size = L := zl
    refine ⟨.ref rp, rfl, rp, rfl, ⟨_, .inl (.inl (sL _ _ erp))⟩, ?_⟩
    refine for_it (walk_list (K := K) (a := rp) (xs := vr ps)) (fun k σ G => Same H G ∧ (∃ ps' : List Addr, G lo = some (.lst (vr ps')) ∧ PairsAt G (fun b => b = lo ∨ H b ≠ none) ps' (oneL us R z L (qs.take k))) ∧ ∃ y4 y5 y6 y7 y8, σ = [some (.str z), some (.ref wa), some (.ref rp), some (.ref lo), y4, y5, y6, y7, y8, none]) ⟨sL, ⟨[], upd_same, rfl, fun k p q x => by simp at x⟩, none, none, none, none, none, rfl⟩ (fun k σ G _ hW => .inl (.inl (hW.1 _ _ erp))) (fun k x σ G1 G1' hk hW hY => ?_) (fun σ G hW => ?_)
    · obtain ⟨s1, ⟨ps1, elo1, its1⟩, y4, y5, y6, y7, y8, rfl⟩ := hW
      obtain ⟨rfl, hx⟩ := hY
      obtain ⟨p, hp, rfl⟩ := vr_at hx
      rw [List.length_map, its.1] at hk
      have hq := List.getElem?_eq_getElem hk
      have hqm := List.getElem_mem hk
      generalize qs[k] = qq at hq hqm
      obtain ⟨okl, okn, oki⟩ := okq _ hqm
      obtain ⟨ha, _, ep, eh⟩ := its.2 k p _ hp hq
      refine ⟨p, [.str (txt qq.1), .ref ha], rfl, .inl (.inl (s1 _ _ ep)), rfl, .str (txt qq.1), [.ref ha], rfl, .ref ha, [], rfl, rfl, ?_⟩
      refine ⟨.str z, rfl, .ref wa, rfl, z, wa, vr cas, rfl, .inl (.inl (s1 _ _ ewa)), ?_⟩
      refine for_it (walk_ZL (K := K) (z := z) (a := wa) (xs := vr cas) (n := L) hzs (by rw [List.length_map, lc])) (fun c σ G => Same H G ∧ (∃ ps' : List Addr, G lo = some (.lst (vr ps')) ∧ PairsAt G (fun b => b = lo ∨ H b ≠ none) ps' (oneL us R z L (qs.take k) ++ rowQ us R z qq c)) ∧ ∃ y6 y7 y8, σ = [some (.str z), some (.ref wa), some (.ref rp), some (.ref lo), some (.str (txt qq.1)), some (.ref ha), y6, y7, y8, none]) ⟨s1, ⟨ps1, elo1, by rw [show rowQ us R z qq 0 = [] from rfl, List.append_nil]; exact its1⟩, y6, y7, y8, rfl⟩ (fun c σ G _ hW => .inl (.inl (hW.1 _ _ ewa))) (fun c x σ G2 G2' hc hW hY => ?_) (fun σ G2 hW => ?_)
      · obtain ⟨s2, ⟨ps2, elo2, its2⟩, y6, y7, y8, rfl⟩ := hW
        obtain ⟨T1, v1, v2, rfl, nT1, rfl, e1, e2⟩ := hY
        obtain ⟨ca, hca, rfl⟩ := vr_at e2
        have ezc : v1 = .str (sg (z.cps.toList.getD c 0)) := by
          have h1 := List.getElem?_eq_getElem (l := z.cps.toList) (i := c) (by rw [Array.length_toList, hzs]; exact hc)
          have e1 : (z.cps[c]?).map (fun c => V.str ⟨#[c]⟩) = some v1 := e1
          rw [← Array.getElem?_toList, h1] at e1
          rw [List.getD_eq_getElem?_getD, h1]
          exact (Option.some.inj e1).symm
        subst ezc
        have sT := same_new (o := .tup [.str (sg (z.cps.toList.getD c 0)), .ref ca]) nT1
        refine ⟨T1, [.str (sg (z.cps.toList.getD c 0)), .ref ca], rfl, .inl (.inl upd_same), rfl, .str (sg (z.cps.toList.getD c 0)), [.ref ca], rfl, .ref ca, [], rfl, rfl, ?_⟩
        have s3 := s2.trans sT
        have elo3 := sT _ _ elo2
        have its3 : PairsAt (upd G2 T1 (.tup [.str (sg (z.cps.toList.getD c 0)), .ref ca])) (fun b => b = lo ∨ H b ≠ none) ps2 (oneL us R z L (qs.take k) ++ rowQ us R z qq c) := its2.mono (Tups.same sT) fun b xs n e => ⟨n, sT _ _ e⟩
        generalize upd G2 T1 (.tup [.str (sg (z.cps.toList.getD c 0)), .ref ca]) = G3 at s3 elo3 its3
        obtain ⟨xs, exs, lxs, cx⟩ := cw c ca hca
        -- the lists
        refine ⟨.ref ha, rfl, ha, rfl, ⟨_, .inl (.inl (s3 _ _ eh))⟩, fun D nD => ?_⟩
        refine lc_it (walk_list (K := K) (a := ha) (xs := vi qq.2)) (fun j G => Same G3 G ∧ ∃ las : List Addr, (∀ a ∈ las, a ≠ D) ∧ G D = some (.lst (vr las)) ∧ LstsAt G las ((qq.2.take j).map fun i => cellU us R i c)) ⟨same_new nD, [], (fun _ h => nomatch h), upd_same, ⟨by rw [List.take_zero]; rfl, fun i a ns e => by simp at e⟩⟩ (fun j G _ hW => .inl (.inl (hW.1 _ _ (s3 _ _ eh)))) (fun j x G4 G4' hj hW hY => ?_) (fun G4 hW => ?_)
        · obtain ⟨s4, las, nla, eD, la⟩ := hW
          obtain ⟨rfl, hx⟩ := hY
          obtain ⟨i, hi, rfl⟩ := int_at hx
          rw [List.length_map] at hj
          have hil := oki i (List.mem_of_getElem? hi)
          have hxi := List.getElem?_eq_getElem (l := xs) (i := i) (by omega)
          generalize xs[i]'(by omega) = x at hxi
          have ex := cx i x hxi
          have xD : x ≠ D := ne_of_none (s3 _ _ ex) nD
          refine ⟨rfl, lcyes ⟨.ref ca, rfl, .int (i : Int), rfl, ca, _, (i : Int), .ref x, rfl, rfl, .inl (.inl (s4 _ _ (s3 _ _ exs))), atI_nat (vr_get hxi), vr las, eD, ?_, ?_, las ++ [x], mem_snoc nla xD, by rw [upd_same, vr_snoc], ?_⟩⟩
          · rw [List.length_map, la.1, List.length_map, List.length_take]
            exact sl _ (by omega)
          · intro b o e
            rw [upd_ne (ne_of_none e nD)]
            exact s4 _ _ e
          · have l3 : LstsAt G4' (las ++ [x]) ((qq.2.take j).map (fun i => cellU us R i c) ++ [cellU us R i c]) := la.snoc (s4 _ _ (s3 _ _ ex))
            rw [take_snoc hi, List.map_append]
            refine ⟨l3.1, fun k a ns x' y => ?_⟩
            rw [upd_ne (mem_snoc nla xD a (List.mem_of_getElem? x'))]
            exact l3.2 k a ns x' y
        obtain ⟨s34, las, _, eD, la⟩ := hW
        rw [List.length_map, List.take_of_length_le (Nat.le_refl _)] at la
        -- unseen
        refine fun d nd => ?_
        have sd := same_new (o := .dK []) nd
        refine ⟨D, d, las, qq.2.map fun i => cellU us R i c, [], [], us.length, rfl, sd _ _ eD, la.mono fun b xs e => sd _ _ e, upd_same, ⟨Nat.le_refl _, fun s' => rfl⟩, List.nodup_nil, (fun _ h => nomatch h), fun x hx => ?_, hU, fun G5 f kvs1 fs o5 nf ef ed sd1 ea1 => ?_⟩
        · obtain ⟨ys, h1, h2⟩ := List.mem_flatten.mp hx
          obtain ⟨i, _, rfl⟩ := List.mem_map.mp h1
          exact cellU_lt h2
        rw [List.nil_append] at sd1 ea1
        have efs : fs = (nextQ us R z qq c).2 := ea1
        have s35 : Same G3 G5 := fun b o e => o5 b o (fun z => by
          have := s34 _ _ e
          rw [z, nd] at this
          cases this) (sd _ _ (s34 _ _ e))
        have s5 := s3.trans s35
        have elo5 := s35 _ _ elo3
        have its5 : PairsAt G5 (fun b => b = lo ∨ H b ≠ none) ps2 (oneL us R z L (qs.take k) ++ rowQ us R z qq c) := its3.mono (Tups.same s35) fun b xs n e => ⟨n, s35 _ _ e⟩
        have fH : H f = none := by
          cases e : H f with
          | none => rfl
          | some o =>
            have := sd _ _ (s34 _ _ (s3 _ _ e))
            rw [nf] at this
            cases this
        have fLo : f ≠ lo := fun z => by
          have := sd _ _ (s34 _ _ elo3)
          rw [← z, nf] at this
          cases this
        have lfs : fs.length ≤ 100000 := by
          rw [ea1]
          refine Nat.le_trans (addL_lt (N := us.length) List.nodup_nil (fun _ h => nomatch h) fun x hx => ?_) hU
          obtain ⟨ys, h1, h2⟩ := List.mem_flatten.mp hx
          obtain ⟨i, _, rfl⟩ := List.mem_map.mp h1
          exact cellU_lt h2
        have lps2 : ps2.length ≤ 5005 := by
          rw [its2.1, List.length_append]
          have a := oneL_len us R z L (qs.take k)
          have b := rowQ_len us R z qq c
          have c1 : (qs.take k).length ≤ 1000 := by rw [List.length_take]; omega
          have d1 : (qs.take k).length * L ≤ 1000 * 5 := Nat.mul_le_mul c1 hL5
          omega
        refine ⟨.ref f, rfl, f, _, rfl, .inl (.inl (.inl ef)), _, 0, rfl, rfl, _, rfl, ite2 (fun y => ?_) (fun y => ?_)⟩
        · have hpos : decide (0 < (nextQ us R z qq c).2.length) = true := by
            have := of_decide_eq_true y
            rw [← efs]
            refine decide_eq_true ?_
            have : (0 : Int) < ((vi fs).length : Nat) := this
            rw [List.length_map] at this
            omega
          refine ⟨.ref lo, rfl, .inl ⟨rfl, _, .inl (.inl elo5)⟩, .str (txt qq.1), rfl, .str (sg (z.cps.toList.getD c 0)), rfl, txt qq.1, sg (z.cps.toList.getD c 0), rfl, rfl, ?_, .ref f, rfl, by show 2 ≤ sizeLine; decide, fun tp ntp => ?_⟩
          · rw [txt_len]
            exact Nat.le_of_lt (sl (qq.1.length + 1) (by omega))
          rw [show txt qq.1 ++ sg (z.cps.toList.getD c 0) = txt (qq.1 ++ [z.cps.toList.getD c 0]) from txt_app qq.1 [z.cps.toList.getD c 0]]
          have s6 := same_new (o := .tup [.str (txt (qq.1 ++ [z.cps.toList.getD c 0])), .ref f]) ntp
          have elo6 := s6 _ _ elo5
          refine ⟨lo, vr ps2, _, rfl, rfl, elo6, ?_, ?_⟩
          · rw [List.length_map]
            exact sl _ (by omega)
          have tnl : Tups (upd G5 tp (.tup [.str (txt (qq.1 ++ [z.cps.toList.getD c 0])), .ref f])) (upd (upd G5 tp (.tup [.str (txt (qq.1 ++ [z.cps.toList.getD c 0])), .ref f])) lo (.lst (vr ps2 ++ [.ref tp]))) := Tups.lst elo6
          refine ⟨fun b o e => ?_, ⟨ps2 ++ [tp], by rw [upd_same, vr_snoc], ?_⟩, _, _, _, rfl⟩
          · rw [upd_ne (neLo b o e)]
            exact s6 _ _ (s5 _ _ e)
          · rw [rowQ_succ, if_pos hpos, ← List.append_assoc]
            refine PairsAt.snoc (its5.mono (fun b xs e => tnl _ _ (s6 _ _ e)) fun b xs n e => ⟨n, by rw [upd_ne fun z => n (.inl z)]; exact s6 _ _ e⟩) ⟨f, fun z => z.elim fLo (fun h => h fH), tnl _ _ upd_same, ?_⟩
            rw [upd_ne fLo, ← efs]
            exact s6 _ _ ef
        · have hno : ¬ decide (0 < (nextQ us R z qq c).2.length) = true := fun h => y (by
            have := of_decide_eq_true h
            rw [← efs] at this
            refine decide_eq_true ?_
            show (0 : Int) < ((vi fs).length : Nat)
            rw [List.length_map]
            omega)
          refine ⟨s5, ⟨ps2, elo5, ?_⟩, _, _, _, rfl⟩
          rw [rowQ_succ, if_neg hno, List.append_nil]
          exact its5
      · obtain ⟨s2, ⟨ps2, elo2, its2⟩, y6, y7, y8, rfl⟩ := hW
        exact ⟨s2, ⟨ps2, elo2, by rw [oneL_take hq]; exact its2⟩, _, _, _, _, _, rfl⟩
    · obtain ⟨s1, ⟨ps1, elo1, its1⟩, y4, y5, y6, y7, y8, rfl⟩ := hW
      rw [List.length_map, its.1, List.take_of_length_le (Nat.le_refl _)] at its1
      exact ⟨.ref lo, rfl, q G lo ps1 s1 nlo elo1 (its1.mono (Tups.refl _) fun b xs n e => ⟨fun z => n (.inr z), e⟩)⟩
end
end LH

namespace LH
open PySem PySem.Spec PyProof.Rows L2 NdefX LamX LU
section
variable {P : Program} {w : World} {K : PySem.W.Frag} {mg : Str → Option Value} {base : Heap}
/-! ### reached_behind -/
def sp_reached_behind : Sp := fun vs H Q _ => ∃ (M : Mach) (fa wa : Addr) (n : Nat) (us : List Nat), vs = [.str M.z, .ref fa, .ref wa, .int (n : Int)] ∧ M.Ok ∧ UsOk (RM M) (finM M) 0 M.rows.length us ∧ M.rows.length ≤ 100000 ∧ WaysAt H wa us M.z.length (RM M) ∧ H fa = some (.lst (vi (if 0 ∈ us then [us.idxOf 0] else []))) ∧ 1 ≤ n ∧ n ≤ 3 ∧
  ∀ H' p ps qs, Same H H' → H p = none → H' p = some (.lst (vr ps)) → PairsAt H' (fun b => b ≠ fa ∧ H b ≠ none) ps qs → WrInv M us n n qs → Q (.ref p) H'
theorem ok_reached_behind (T : TX K mg) : FnOk P w K mg base CX0 3 T.a_reached_behind T.fd_reached_behind ["letters", "firsts", "ways", "size"] sp_reached_behind := by
  have G_one_letter_on : FnOk P w K mg base CX0 2 T.a_one_letter_on T.fd_one_letter_on ["letters", "ways", "reached"] sp_one_letter_on := ok_one_letter_on T
  refine T.F_reached_behind.ok sc_reached_behind (fun vs H Q E h => ?_) (fun cdv A outer s H vs Q E hr h => ?_)
  · obtain ⟨M, fa, wa, n, us, rfl, _⟩ := h
    rfl
  · obtain ⟨M, fa, wa, n, us, rfl, k, uo, hb, hw, efa, n1, n3, q⟩ := h
    refine ⟨_, (pss_cons (ps_set (i := 4) sc_reached_behind.nd rfl (Or.inl rfl) (pe_lst pa_nil))
      (pss_cons (ps_for PassesOwn.never rfl (pi_range1 (by rfl) T.m_range (pa_cons (pv 3) pa_nil)) (pg_name (i := 5) sc_reached_behind.nd rfl (Or.inl rfl))
        (pss_cons (ps_set (i := 6) sc_reached_behind.nd rfl (Or.inl rfl) (pe_op op_repZ (pe_glob (v := .str "^") (by rfl) T.c_FRONT ⟨_, rfl⟩) (pe_op op_sub (pe_op op_sub (pv 3) pe_int) (pv 5))))
          (pss_cons (ps_set (i := 7) sc_reached_behind.nd rfl (Or.inl rfl) (pe_lst (pa_cons (pe_tup (pa_cons (pv 6) (pa_cons (pe_mid (pe_ifExp (pt_cmpR op_ne (pv 6) pe_str (nomark _)) (pv 1) (pe_listRg (by rfl) (by rfl) T.m_list (prg_1 (by rfl) T.m_range (pe_callB (call_lenK K rfl) (by rfl) T.m_len (by decide +kernel) (pa_cons (pe_ix (ix_listK K rfl) (pv 2) pe_int (fun _ _ => rfl)) pa_nil)))))) pa_nil))) pa_nil)))
          (pss_cons (ps_for PassesOwn.never rfl (pi_range1 (by rfl) T.m_range (pa_cons (pv 5) pa_nil)) (pg_name (i := 8) sc_reached_behind.nd rfl (Or.inl rfl))
            (pss_one (ps_set (i := 7) sc_reached_behind.nd rfl (Or.inl rfl) (pe_call G_one_letter_on (hr.mono (by decide)) (by rfl) T.g_one_letter_on T.F_one_letter_on.kp T.b_one_letter_on .nil pass0 (pa_cons (pv 0) (pa_cons (pv 2) (pa_cons (pv 7) pa_nil)))))))
          (pss_one (ps_aug (i := 4) sc_reached_behind.nd rfl (Or.inl rfl) (pv 7) iop_ext))))))
      (pss_one (ps_ret (pv 4))))), ?_⟩
    have sl : ∀ m, m ≤ 1000000 → m ≤ sizeLine := fun m hm => Nat.le_trans hm (by decide)
    have sl' : ∀ m, m ≤ 1000000 → m < sizeLine := fun m hm => Nat.lt_of_le_of_lt hm (by decide)
    obtain ⟨cas, cw⟩ := hw.cells uo (hR_of k)
    have lenU : us.length ≤ 100000 := Nat.le_trans (us_len uo) hb
    have l1 := k.let_.one
    have l5 := k.let_.five
    have pw3 : ∀ i, i ≤ 3 → M.z.length ^ i ≤ 125 := fun i hi => Nat.le_trans (Nat.pow_le_pow_left l5 i) (Nat.le_trans (Nat.pow_le_pow_right (by decide) hi) (by decide))
    refine ⟨by show 0 ≤ sizeLine; decide, fun ro nro => ?_⟩
    have sR := same_new (o := .lst []) nro
    have neRo : ∀ b o, H b = some o → b ≠ ro := fun b o e => ne_of_none e nro
    refine ⟨.int (n : Int), rfl, (n : Int), rfl, by omega, by omega, ?_⟩
    refine for_range (lo := 0) (n := (n : Int).toNat) (fun m σ G => Same H G ∧ (∃ (ps : List Addr) (qs : List (List Nat × List Nat)), G ro = some (.lst (vr ps)) ∧ PairsAt G (fun b => b = ro ∨ (b ≠ fa ∧ H b ≠ none)) ps qs ∧ WrInv M us n m qs) ∧ ∃ y5 y6 y7 y8, σ = [some (.str M.z), some (.ref fa), some (.ref wa), some (.int (n : Int)), some (.ref ro), y5, y6, y7, y8]) ⟨sR, ⟨[], [], upd_same, ⟨rfl, fun k p q x => by simp at x⟩, WrInv.zero n1⟩, none, none, none, none, rfl⟩ (fun m σ G hm hW => ?_) (fun σ G hW => ?_)
    · obtain ⟨sG, ⟨ps, qs, ero, its, ri⟩, y5, y6, y7, y8, rfl⟩ := hW
      have hmn : m < n := by omega
      have en : ((n : Int) - 1 - (0 + (m : Int))).toNat = n - 1 - m := by omega
      -- marks
      refine ⟨.int (n : Int), rfl, (n : Int), 1, rfl, rfl, .int (0 + (m : Int)), rfl, (n : Int) - 1, 0 + (m : Int), rfl, rfl, Str.ofString "^", (n : Int) - 1 - (0 + (m : Int)), rfl, rfl, by omega, by omega, by decide, ?_⟩
      rw [en, s_front, repS_sg]
      -- newest
      refine ⟨.str (txt (List.replicate (n - 1 - m) 94)), rfl, ?_⟩
      refine ⟨fun v G' => ∃ hp, v = .ref hp ∧ Same G G' ∧ ¬ (hp = ro ∨ (hp ≠ fa ∧ H hp ≠ none)) ∧ G' hp = some (.lst (vi (firstQ us (decide (0 < n - 1 - m)) (List.replicate (n - 1 - m) 94)).2)), ?_, fun v G' hM => ?_⟩
      · refine ⟨.str (txt (List.replicate (n - 1 - m) 94)), rfl, rfl, _, rfl, ite2 (fun y => ?_) (fun y => ?_)⟩
        · have hpos : 0 < n - 1 - m := Nat.pos_of_ne_zero fun z => by
            rw [z] at y
            exact absurd y (by decide)
          refine ⟨.ref fa, rfl, fa, rfl, Same.refl _, fun z => z.elim (fun h => neRo _ _ efa h) fun h => h.1 rfl, ?_⟩
          unfold firstQ
          rw [decide_eq_true hpos]
          exact sG _ _ efa
        · have hz : n - 1 - m = 0 := by
            refine Nat.eq_zero_of_not_pos fun z => y ?_
            have hne : (txt (List.replicate (n - 1 - m) 94)) ≠ Str.ofString "" := fun e => by
              have := congrArg Str.length e
              rw [txt_len, List.length_replicate] at this
              have : n - 1 - m = 0 := this
              omega
            show (!decide (V.str _ = V.str _)) = true
            rw [decide_eq_false fun e => hne (V.str.inj e)]
            rfl
          obtain ⟨ewa, lc, cx⟩ := cw
          have hc0 := List.getElem?_eq_getElem (l := cas) (i := 0) (by omega)
          generalize cas[0]'(by omega) = ca0 at hc0
          obtain ⟨xs0, exs0, lxs0, _⟩ := cx 0 ca0 hc0
          refine ⟨.ref wa, rfl, wa, _, 0, .ref ca0, rfl, rfl, .inl (.inl (sG _ _ ewa)), atI_nat (j := 0) (vr_get hc0), ca0, _, rfl, .inl (.inl (.inl (sG _ _ exs0))), ((vr xs0).length : Int), rfl, ?_, fun hp nhp => ?_⟩
          · rw [List.length_map, lxs0]
            exact ⟨by omega, by omega, by omega, by omega, by omega⟩
          · refine ⟨hp, rfl, same_new nhp, fun z => z.elim (fun h => ?_) fun h => h.2 (sG.free nhp), ?_⟩
            · rw [h, ero] at nhp
              cases nhp
            · rw [upd_same]
              unfold firstQ rgV
              rw [hz, List.length_map, lxs0]
              refine congrArg (fun z => some (HO.lst z)) ?_
              rw [Int.sub_zero, Int.toNat_natCast]
              exact List.map_congr_left fun i _ => congrArg V.int (Int.zero_add _)
      obtain ⟨hp, rfl, sg1, nhp, ehp⟩ := hM
      refine ⟨by show 2 ≤ sizeLine; decide, fun tp ntp => ?_⟩
      have s4 := same_new (o := .tup [.str (txt (List.replicate (n - 1 - m) 94)), .ref hp]) ntp
      refine ⟨by show 1 ≤ sizeLine; decide, fun np nnp => ?_⟩
      have s5 := same_new (o := .lst [.ref tp]) nnp
      have s15 := (sg1.trans s4).trans s5
      have it0 : PairsAt (upd (upd G' tp (.tup [.str (txt (List.replicate (n - 1 - m) 94)), .ref hp])) np (.lst [.ref tp])) (fun b => b = ro ∨ (b ≠ fa ∧ H b ≠ none)) [tp] [firstQ us (decide (0 < n - 1 - m)) (List.replicate (n - 1 - m) 94)] := ⟨rfl, fun j p q x y => by
        have hk := (List.getElem?_eq_some_iff.mp x).1
        have hk : j < 1 := hk
        obtain rfl : j = 0 := by omega
        cases x
        cases y
        exact ⟨hp, nhp, s5 _ _ upd_same, s5 _ _ (s4 _ _ ehp)⟩⟩
      have enp : (upd (upd G' tp (.tup [.str (txt (List.replicate (n - 1 - m) 94)), .ref hp])) np (.lst [.ref tp])) np = some (.lst (vr [tp])) := upd_same
      generalize upd (upd G' tp (.tup [.str (txt (List.replicate (n - 1 - m) 94)), .ref hp])) np (.lst [.ref tp]) = G5 at s15 it0 enp
      -- for turn in range(many)
      refine ⟨.int (0 + (m : Int)), rfl, 0 + (m : Int), rfl, by omega, by omega, ?_⟩
      refine for_range (lo := 0) (n := (0 + (m : Int)).toNat) (fun t σ G2 => Same G G2 ∧ ∃ (np : Addr) (ps2 : List Addr) (qs2 : List (List Nat × List Nat)) (y8 : Option V), G2 np = some (.lst (vr ps2)) ∧ PairsAt G2 (fun b => b = ro ∨ (b ≠ fa ∧ H b ≠ none)) ps2 qs2 ∧ WpInv M us (decide (0 < n - 1 - m)) (List.replicate (n - 1 - m) 94) t qs2 ∧ σ = [some (.str M.z), some (.ref fa), some (.ref wa), some (.int (n : Int)), some (.ref ro), some (.int (0 + (m : Int))), some (.str (txt (List.replicate (n - 1 - m) 94))), some (.ref np), y8]) ⟨s15, np, [tp], _, y8, enp, it0, WpInv.first k uo _ _, rfl⟩ (fun t σ G2 ht hW => ?_) (fun σ G2 hW => ?_)
      · obtain ⟨s2, np, ps2, qs2, y8, enp, its2, pi, rfl⟩ := hW
        have htm : t < m := by omega
        have cw2 : CellsW G2 wa cas us M.z.length (RM M) := ⟨s2 _ _ (sG _ _ cw.1), cw.2.1, fun c ca hc => by
          obtain ⟨xs, a, b, d⟩ := cw.2.2 c ca hc
          exact ⟨xs, s2 _ _ (sG _ _ a), b, fun i x hx => s2 _ _ (sG _ _ (d i x hx))⟩⟩
        refine ⟨.str M.z, rfl, .ref wa, rfl, .ref np, rfl, M.z, wa, np, M.z.length, us, RM M, cas, ps2, qs2, rfl, cw2, rfl, l5, lenU, enp, its2.mono (Tups.refl _) (fun b xs _ e => ⟨fun z => z, e⟩), ?_, fun q hq => ⟨?_, Nat.le_trans (pi.size q hq) lenU, pi.lt q hq⟩, fun H' p ps' s' np' e' its' => ?_⟩
        · have := pi.len
          have := pw3 t (by omega)
          omega
        · obtain ⟨v, hv, _, e, _⟩ := pi.sound q hq
          rw [e, List.length_append, List.length_replicate, hv]
          omega
        · have roG : G2 ro = some (.lst (vr ps)) := s2 _ _ ero
          refine ⟨s2.trans s', p, ps', _, _, e', its'.mono (Tups.refl _) (fun b xs nx e => ⟨fun z => nx fun hn => ?_, e⟩), pi.next k uo, rfl⟩
          rcases z with z | z
          · rw [z, roG] at hn
            cases hn
          · cases eH : H b with
            | none => exact z.2 eH
            | some o =>
              rw [s2 _ _ (sG _ _ eH)] at hn
              cases hn
      obtain ⟨s2, np, ps2, qs2, y8, enp, its2, pi, rfl⟩ := hW
      rw [show (0 + (m : Int)).toNat = m by omega] at pi
      have ero2 := s2 _ _ ero
      have lps : ps.length ≤ 400 := by
        rw [its.1]
        have a := ri.len
        have b := pw3 n n3
        have c : m * M.z.length ^ n ≤ 3 * 125 := Nat.mul_le_mul (by omega) b
        omega
      have lps2 : ps2.length ≤ 125 := by
        rw [its2.1]
        exact Nat.le_trans pi.len (pw3 m (by omega))
      -- reached += newest
      refine ⟨.ref ro, rfl, .ref np, rfl, ro, np, _, _, rfl, rfl, ero2, enp, by rw [List.length_map, List.length_map]; exact sl _ (by omega), ?_⟩
      have itsA := its.mono (Tups.same s2) fun b xs nx e => ⟨nx, s2 _ _ e⟩
      refine ⟨fun b o e => ?_, ⟨ps ++ ps2, qs ++ qs2, ?_, ?_, ri.next k hmn pi⟩, _, _, _, _, rfl⟩
      · rw [upd_ne (neRo b o e)]
        exact s2 _ _ (sG _ _ e)
      · rw [upd_same]
        exact congrArg (fun z => some (HO.lst z)) (List.map_append (f := V.ref) (l₁ := ps) (l₂ := ps2)).symm
      · refine ⟨by rw [List.length_append, List.length_append, itsA.1, its2.1], fun j p' q' x y => ?_⟩
        have up : ∀ {p q}, PairAt G2 (fun b => b = ro ∨ (b ≠ fa ∧ H b ≠ none)) p q → PairAt (upd G2 ro (.lst (vr ps ++ vr ps2))) (fun b => b = ro ∨ (b ≠ fa ∧ H b ≠ none)) p q := fun h => h.mono (Tups.lst ero2) fun b xs nx e => ⟨nx, by rw [upd_ne fun z => nx (.inl z)]; exact e⟩
        by_cases hj : j < ps.length
        · rw [List.getElem?_append_left hj] at x
          rw [List.getElem?_append_left (by rw [← itsA.1]; exact hj)] at y
          exact up (itsA.2 j p' q' x y)
        · rw [List.getElem?_append_right (by omega)] at x
          rw [List.getElem?_append_right (by rw [← itsA.1]; omega), ← itsA.1] at y
          exact up (its2.2 _ p' q' x y)
    · obtain ⟨sG, ⟨ps, qs, ero, its, ri⟩, y5, y6, y7, y8, rfl⟩ := hW
      rw [Int.toNat_natCast] at ri
      exact ⟨.ref ro, rfl, q G ro ps qs sG nro ero (its.mono (Tups.refl _) fun b xs nx e => ⟨fun z => nx (.inr z), e⟩) ri⟩
end
end LH

namespace LH
open PySem PySem.Spec PyProof.Rows L2 NdefX LamX LU
theorem rowW_succ (us : List Nat) (R : Nat → List Nat) (z : Str) (q : List Nat × List Nat) (c : Nat) : rowW us R z q (c + 1) = rowW us R z q c ++ if q.2.any (manyB us R c) = true then [txt (q.1 ++ [z.cps.toList.getD c 0])] else [] := by
  unfold rowW
  rw [List.range_succ, List.filter_append, List.map_append]
  congr 1
  rw [List.filter_cons]
  by_cases h : q.2.any (manyB us R c) = true
  · rw [if_pos h, if_pos h]
    rfl
  · rw [if_neg h, if_neg h]
    rfl
theorem winL_take {us : List Nat} {R : Nat → List Nat} {fin : Nat → Bool} {z : Str} {L n k : Nat} {qs : List (List Nat × List Nat)} {q : List Nat × List Nat} (h : qs[k]? = some q) : winL us R fin z L n (qs.take (k + 1)) = winL us R fin z L n (qs.take k) ++ (rowW us R z q L ++ endQ us fin n q) := by
  unfold winL
  rw [List.take_add_one, h, List.flatMap_append]
  simp
theorem tabs_lst {T : List NTab} {H : Hp} {r : Addr} {xs ys : List V} (t : TabsN T H) (e : H r = some (.lst xs)) : TabsN T (upd H r (.lst ys)) := tabs_off t e fun b o n h => by rw [upd_ne n]; exact h
theorem OffN.put {r : Addr} {H H' : Hp} {o : HO} (x : OffN r H H') : OffN r H (upd H' r o) := fun b u n h t => by
  rw [upd_ne n]
  exact x b u n h t
def nm_windows_of_ways : Nat → Nat → Str := fun _ _ => ("windows_of_ways" : Str) ++ ".<locals>." ++ "<genexpr>"
theorem tAll_nodup (xs : List Str) : (tAll xs).Nodup := by
  have go : ∀ (xs l : List Str), l.Nodup → (xs.foldl tAdd l).Nodup := by
    intro xs
    induction xs with
    | nil => intro l h; exact h
    | cons x r ih =>
      intro l h
      refine ih _ ?_
      unfold tAdd
      by_cases q : x ∈ l
      · rw [if_pos q]; exact h
      · rw [if_neg q]; exact List.nodup_cons.mpr ⟨q, h⟩
  exact go xs [] List.nodup_nil
section
variable {P : Program} {w : World} {K : PySem.W.Frag} {mg : Str → Option Value} {base : Heap}
def sp_windows_of_ways (tabs : List NTab) : Sp := fun vs H Q _ => ∃ (M : Mach) (fa wa ea : Addr) (n : Nat) (us : List Nat), vs = [.str M.z, .ref fa, .ref wa, .ref ea, .int (n : Int)] ∧ M.Ok ∧ UsOk (RM M) (finM M) 0 M.rows.length us ∧ M.rows.length ≤ 100000 ∧ WaysAt H wa us M.z.length (RM M) ∧ H fa = some (.lst (vi (if 0 ∈ us then [us.idxOf 0] else []))) ∧ H ea = some (.lst (vb (us.map (finM M)))) ∧ 1 ≤ n ∧ n ≤ 3 ∧ TabsN tabs H ∧
  ∀ H' p ys, ExtN H H' → TabsN tabs H' → (∀ b o, H b = some o → (∀ ps, o ≠ .tbl ps) → b ≠ p) → H' p = some (.lst (vS ys)) → sortedS ys = true → ys.Nodup → ys.length ≤ n * M.z.length ^ n * (M.z.length + n) → (∀ x, x ∈ ys ↔ WinOf M n x) → Q (.ref p) H'
theorem ok_windows_of_ways (T : TX K mg) {c PT : Addr} {tabs : List NTab} (F : FunC K "windows_of_ways" "windows_of_ways" s_windows_of_ways T.a_windows_of_ways T.fd_windows_of_ways c) (TB : TabB base mg c PT) (hin : (PT, nm_windows_of_ways) ∈ tabs) (huq : ∀ p ∈ tabs, p.1 = PT → p.2 = nm_windows_of_ways) : FnOk P w K mg base CX0 6 T.a_windows_of_ways T.fd_windows_of_ways ["letters", "firsts", "ways", "ended", "size"] (sp_windows_of_ways tabs) := by
  have G_reached_behind : FnOk P w K mg base CX0 3 T.a_reached_behind T.fd_reached_behind ["letters", "firsts", "ways", "size"] sp_reached_behind := ok_reached_behind T
  have G_last_windows : FnOk P w K mg base CX0 1 T.a_last_windows T.fd_last_windows ["held", "size"] sp_last_windows := ok_last_windows T
  refine F.ok sc_windows_of_ways (fun vs H Q E h => ?_) (fun A outer s H vs Q E hr h => ?_)
  · obtain ⟨M, fa, wa, ea, n, us, rfl, _⟩ := h
    rfl
  · obtain ⟨M, fa, wa, ea, n, us, rfl, k, uo, hb, hw, efa, eea, n1, n3, tb, q⟩ := h
    refine ⟨_, (pss_cons (ps_set (i := 5) sc_windows_of_ways.nd rfl (Or.inl rfl) (pe_lst pa_nil))
      (pss_cons (ps_for PassesOwn.never rfl (pi_listK K rfl (pe_call G_reached_behind (hr.mono (by decide)) (by rfl) T.g_reached_behind T.F_reached_behind.kp T.b_reached_behind .nil pass0 (pa_cons (pv 0) (pa_cons (pv 1) (pa_cons (pv 2) (pa_cons (pv 4) pa_nil)))))) (pg_tupK (n := 2) K rfl (by rfl) (pgs_cons (pg_name (i := 6) sc_windows_of_ways.nd rfl (Or.inl rfl)) (pgs_cons (pg_name (i := 7) sc_windows_of_ways.nd rfl (Or.inl rfl)) pgs_nil)))
        (pss_cons (ps_for PassesOwn.never rfl (pi_zipZL K rfl (by rfl) T.m_zip (pa_cons (pv 0) (pa_cons (pv 2) pa_nil))) (pg_tupK (n := 2) K rfl (by rfl) (pgs_cons (pg_name (i := 8) sc_windows_of_ways.nd rfl (Or.inl rfl)) (pgs_cons (pg_name (i := 9) sc_windows_of_ways.nd rfl (Or.inr rfl)) pgs_nil)))
            (pss_one (ps_if (pt_val (pe_anyN hr (by rfl) T.m_any TB hin (by kernel_rfl) huq rfl ⟨rfl, rfl, (by decide +kernel), rfl, rfl, by kernel_rfl⟩ (pv 7) (elt_many (j := 9) rfl rfl rfl (by decide +kernel) rfl (by kernel_rfl) rfl rfl T.m_len) (fun _ => rfl)))
                (pss_one (ps_expr (pe_bmK K rfl PySem.F.plainAttrs_list PySem.F.slot_list_append PySem.F.type_list_append mt_append (pv 5) (pa_cons (pe_op op_add_str (pv 6) (pv 8)) pa_nil))))
                pss_nil)))
          (pss_one (ps_if (pt_val (pe_anyN hr (by rfl) T.m_any TB hin (by kernel_rfl) huq rfl ⟨rfl, rfl, (by decide +kernel), rfl, rfl, by kernel_rfl⟩ (pv 7) (elt_truth (j := 3) rfl rfl rfl (by decide +kernel) (by kernel_rfl) rfl rfl) (fun _ => rfl)))
            (pss_one (ps_aug (i := 5) sc_windows_of_ways.nd rfl (Or.inl rfl) (pe_call G_last_windows (hr.mono (by decide)) (by rfl) T.g_last_windows T.F_last_windows.kp T.b_last_windows .nil pass0 (pa_cons (pv 6) (pa_cons (pv 4) pa_nil))) iop_ext))
            pss_nil))))
      (pss_one (ps_ret (pe_callB (cr_sortTK P w rfl rfl rfl) (by rfl) T.m_sorted (by decide +kernel) (pa_cons (pe_callTy (cr_setLK P w K rfl rfl rfl rfl) (by rfl) T.m_set (by decide +kernel) (pa_cons (pv 5) pa_nil)) pa_nil)))))), ?_⟩
    have sl : ∀ m, m ≤ 1000000 → m ≤ sizeLine := fun m hm => Nat.le_trans hm (by decide)
    have sl' : ∀ m, m ≤ 1000000 → m < sizeLine := fun m hm => Nat.lt_of_le_of_lt hm (by decide)
    obtain ⟨cas, cw⟩ := hw.cells uo (hR_of k)
    have lenU : us.length ≤ 100000 := Nat.le_trans (us_len uo) hb
    have l1 := k.let_.one
    have l5 := k.let_.five
    refine ⟨by show 0 ≤ sizeLine; decide, fun wo nwo => ?_⟩
    have sW := same_new (o := .lst []) nwo
    have neWo : ∀ b o, H b = some o → b ≠ wo := fun b o e => ne_of_none e nwo
    refine ⟨.str M.z, rfl, .ref fa, rfl, .ref wa, rfl, .int (n : Int), rfl, M, fa, wa, n, us, rfl, k, uo, hb, hw.mono (fun b xs e => sW _ _ e), sW _ _ efa, n1, n3, fun H3 rp ps qs s3 nrp erp its ri => ?_⟩
    have ewo3 := s3 _ _ (show (upd H wo (.lst [])) wo = some (.lst (vS [])) from upd_same)
    have s03 := sW.trans s3
    have itsW : PairsAt H3 (fun b => b = wo) ps qs := its.mono (Tups.refl _) fun b xs nx e => ⟨fun z => nx ⟨fun y => neWo _ _ efa (y ▸ z), by rw [z, upd_same]; exact fun h => nomatch h⟩, e⟩
    have rpw : rp ≠ wo := fun z => by
      rw [z, upd_same] at nrp
      cases nrp
    have lqs : qs.length ≤ 400 := by
      have a := ri.len
      have b : M.z.length ^ n ≤ 125 := Nat.le_trans (Nat.pow_le_pow_left l5 n) (Nat.le_trans (Nat.pow_le_pow_right (by decide) n3) (by decide))
      have c : n * M.z.length ^ n ≤ 3 * 125 := Nat.mul_le_mul n3 b
      omega
    have lwin : ∀ j, (winL us (RM M) (finM M) M.z M.z.length n (qs.take j)).length ≤ 3200 := fun j => by
      have a := winL_len us (RM M) (finM M) M.z M.z.length n (qs.take j)
      have b : (qs.take j).length * (M.z.length + n) ≤ 400 * 8 := Nat.mul_le_mul (by rw [List.length_take]; omega) (by omega)
      omega
    refine ⟨rp, rfl, ⟨_, .inl (.inl erp)⟩, ?_⟩
    refine for_it (walk_list (K := K) (a := rp) (xs := vr ps)) (fun j σ G => OffN wo H3 G ∧ TabsN tabs G ∧ G wo = some (.lst (vS (winL us (RM M) (finM M) M.z M.z.length n (qs.take j)))) ∧ ∃ y6 y7 y8 y9, σ = [some (.str M.z), some (.ref fa), some (.ref wa), some (.ref ea), some (.int (n : Int)), some (.ref wo), y6, y7, y8, y9]) ⟨OffN.refl _ _, tb.ext s03, ewo3, none, none, none, none, rfl⟩ (fun j σ G _ hW => .inl (.inl (hW.1.lst rpw erp))) (fun j x σ G1 G1' hj hW hY => ?_) (fun σ G hW => ?_)
    · obtain ⟨o1, t1, e1, y6, y7, y8, y9, rfl⟩ := hW
      obtain ⟨rfl, hx⟩ := hY
      obtain ⟨p, hp, rfl⟩ := vr_at hx
      rw [List.length_map, its.1] at hj
      have hq := List.getElem?_eq_getElem hj
      have hqm := List.getElem_mem hj
      generalize qs[j] = qq at hq hqm
      have hld := ri.held _ hqm
      have hlt := ri.lt _ hqm
      obtain ⟨ha, nha, ep, eh⟩ := itsW.2 j p _ hp hq
      have pw : p ≠ wo := fun z => by
        rw [z, ewo3] at ep
        cases ep
      have eh1 := o1.lst nha eh
      refine ⟨p, [.str (txt qq.1), .ref ha], rfl, .inl (.inl (o1.tup pw ep)), rfl, .str (txt qq.1), [.ref ha], rfl, .ref ha, [], rfl, rfl, ?_⟩
      have fr : ∀ b xs, H b = some (.lst xs) → ∀ G, OffN wo H3 G → G b = some (.lst xs) := fun b xs e G o => o.lst (neWo _ _ e) (s03 _ _ e)
      refine ⟨.str M.z, rfl, .ref wa, rfl, M.z, wa, vr cas, rfl, .inl (.inl (fr _ _ cw.1 _ o1)), ?_⟩
      refine for_it (walk_ZL (K := K) (z := M.z) (a := wa) (xs := vr cas) (n := M.z.length) rfl (by rw [List.length_map, cw.2.1])) (fun c σ G => OffN wo H3 G ∧ TabsN tabs G ∧ G wo = some (.lst (vS (winL us (RM M) (finM M) M.z M.z.length n (qs.take j) ++ rowW us (RM M) M.z qq c))) ∧ ∃ y8 y9, σ = [some (.str M.z), some (.ref fa), some (.ref wa), some (.ref ea), some (.int (n : Int)), some (.ref wo), some (.str (txt qq.1)), some (.ref ha), y8, y9]) ⟨o1, t1, by rw [show rowW us (RM M) M.z qq 0 = [] from rfl, List.append_nil]; exact e1, y8, y9, rfl⟩ (fun c σ G _ hW => .inl (.inl (fr _ _ cw.1 _ hW.1))) (fun c x σ G2 G2' hc hW hY => ?_) (fun σ G2 hW => ?_)
      · obtain ⟨o2, t2, e2, y8, y9, rfl⟩ := hW
        obtain ⟨T1, v1, v2, rfl, nT1, rfl, q1, q2⟩ := hY
        obtain ⟨ca, hca, rfl⟩ := vr_at q2
        have ezc : v1 = .str (sg (M.z.cps.toList.getD c 0)) := by
          have h1 := List.getElem?_eq_getElem (l := M.z.cps.toList) (i := c) (by rw [Array.length_toList]; exact hc)
          have q1 : (M.z.cps[c]?).map (fun c => V.str ⟨#[c]⟩) = some v1 := q1
          rw [← Array.getElem?_toList, h1] at q1
          rw [List.getD_eq_getElem?_getD, h1]
          exact (Option.some.inj q1).symm
        subst ezc
        have sT := same_new (o := .tup [.str (sg (M.z.cps.toList.getD c 0)), .ref ca]) nT1
        refine ⟨T1, [.str (sg (M.z.cps.toList.getD c 0)), .ref ca], rfl, .inl (.inl upd_same), rfl, .str (sg (M.z.cps.toList.getD c 0)), [.ref ca], rfl, .ref ca, [], rfl, rfl, ?_⟩
        have o3 := o2.trans (OffN.same (r := wo) sT)
        have t3 := t2.ext sT
        have e3 := sT _ _ e2
        generalize upd G2 T1 (.tup [.str (sg (M.z.cps.toList.getD c 0)), .ref ca]) = G3 at o3 t3 e3
        obtain ⟨xs, exs, lxs, cx⟩ := cw.2.2 c ca hca
        refine ⟨.ref ha, rfl, ha, qq.2, manyB us (RM M) c, rfl, o3.lst nha eh, t3, ⟨ca, xs, rfl, fr _ _ exs _ o3, fun i hi => ?_⟩, fun G4 x4 t4 => ?_⟩
        · have hxi := List.getElem?_eq_getElem (l := xs) (i := i) (by have := hlt i hi; omega)
          have := cellU_len (us := us) (R := RM M) (i := i) (c := c)
          exact ⟨_, cellU us (RM M) i c, hxi, fr _ _ (cx i _ hxi) _ o3, by omega, rfl⟩
        have o4 := o3.trans (OffN.ext (r := wo) x4)
        have e4 := lstN x4 e3
        have lw := lwin j
        have lr := rowW_len us (RM M) M.z qq c
        refine ⟨_, rfl, ite2 (fun g => ?_) (fun g => ?_)⟩
        · refine ⟨.ref wo, rfl, .inl ⟨rfl, _, .inl (.inl e4)⟩, .str (txt qq.1), rfl, .str (sg (M.z.cps.toList.getD c 0)), rfl, txt qq.1, sg (M.z.cps.toList.getD c 0), rfl, rfl, ?_, wo, _, _, rfl, rfl, e4, ?_, ?_⟩
          · rw [txt_len]
            exact sl (qq.1.length + 1) (by omega)
          · rw [List.length_map, List.length_append]
            exact sl' _ (by omega)
          · refine ⟨o4.put, tabs_lst t4 e4, ?_, _, _, rfl⟩
            rw [upd_same, rowW_succ, if_pos g, ← List.append_assoc, vS_snoc, show txt qq.1 ++ sg (M.z.cps.toList.getD c 0) = txt (qq.1 ++ [M.z.cps.toList.getD c 0]) from txt_app qq.1 [M.z.cps.toList.getD c 0]]
        · refine ⟨o4, t4, ?_, _, _, rfl⟩
          rw [rowW_succ, if_neg g, List.append_nil]
          exact e4
      · obtain ⟨o2, t2, e2, y8, y9, rfl⟩ := hW
        refine ⟨.ref ha, rfl, ha, qq.2, finB us (finM M), rfl, o2.lst nha eh, t2, ⟨ea, us.map (finM M), rfl, fr _ _ eea _ o2, fun i hi => ?_⟩, fun G4 x4 t4 => ?_⟩
        · have hi' := List.getElem?_eq_getElem (hlt i hi)
          unfold finB
          rw [List.getElem?_map, hi', List.getD_eq_getElem?_getD, hi']
          rfl
        have o4 := o2.trans (OffN.ext (r := wo) x4)
        have e4 := lstN x4 e2
        have lw := lwin j
        have lr := rowW_len us (RM M) M.z qq M.z.length
        have le := endQ_len us (finM M) n qq
        refine ⟨_, rfl, ite2 (fun g => ?_) (fun g => ?_)⟩
        · refine ⟨.ref wo, rfl, .str (txt qq.1), rfl, .int (n : Int), rfl, qq.1, n, rfl, n1, by omega, hld, fun G5 lp s5 nlp elp => ?_⟩
          have e5 := s5 _ _ e4
          refine ⟨wo, lp, _, _, rfl, rfl, e5, elp, ?_, ?_⟩
          · rw [List.length_map, List.length_append, List.length_map, List.length_map, List.length_range]
            exact sl _ (by omega)
          · refine ⟨(o4.trans (OffN.same (r := wo) s5)).put, tabs_lst (t4.ext s5) e5, ?_, _, _, _, _, rfl⟩
            rw [upd_same, vS_app, winL_take hq]
            unfold endQ
            rw [if_pos g, List.append_assoc]
        · refine ⟨o4, t4, ?_, _, _, _, _, rfl⟩
          rw [winL_take hq]
          unfold endQ
          rw [if_neg g, List.append_nil]
          exact e4
    · obtain ⟨o1, t1, e1, y6, y7, y8, y9, rfl⟩ := hW
      have lw := lwin ps.length
      rw [List.length_map] at e1
      have et : qs.take ps.length = qs := List.take_of_length_le (by rw [its.1]; exact Nat.le_refl _)
      rw [et] at e1 lw
      have tl := tAll_len (winL us (RM M) (finM M) M.z M.z.length n qs)
      refine ⟨.ref wo, rfl, wo, _, rfl, .inl (.inl e1), by omega, fun sp nsp => ⟨sp, tAll (winL us (RM M) (finM M) M.z M.z.length n qs), rfl, upd_same, by omega, fun zs so pm st nso => ?_⟩⟩
      have sS := same_new (o := SetT P w sp (tAll (winL us (RM M) (finM M) M.z M.z.length n qs))) nsp
      have sO := sS.trans (same_new (o := .lst (vS zs)) nso)
      have keep : ∀ b o, H b = some o → (∀ ps, o ≠ .tbl ps) → G b = some o := fun b o e nt => o1 b o (neWo b o e) (s03 _ _ e) nt
      refine q _ so zs (fun b o e nt => sO _ _ (keep b o e nt)) (t1.ext sO) (fun b o e nt => ne_of_none (sS _ _ (keep b o e nt)) nso) upd_same st (pm.nodup_iff.mpr (tAll_nodup _)) (by rw [pm.length_eq]; exact Nat.le_trans tl (Nat.le_trans (winL_len _ _ _ _ _ _ _) (Nat.mul_le_mul_right _ ri.len))) fun x => ?_
      rw [pm.mem_iff, mem_tAll, winL_iff k uo n1 ri]
end
end LH

namespace LH
open PySem PySem.Spec PyProof.Rows L2 NdefX LamX LU
/-- the list of a machine's windows -/
structure IsW (M : Mach) (n : Nat) (ys : List Str) : Prop where
  so : sortedS ys = true
  nd : ys.Nodup
  len : ys.length ≤ n * M.z.length ^ n * (M.z.length + n)
  mem : ∀ x, x ∈ ys ↔ WinOf M n x
theorem IsW.one {M N : Mach} {n : Nat} {a b : List Str} (h : IsW M n a) (g : IsW N n b) (e : ∀ x, WinOf M n x ↔ WinOf N n x) : a = b :=
  sorted_one h.so g.so ((List.perm_ext_iff_of_nodup h.nd g.nd).mpr fun x => by rw [h.mem, g.mem, e])
section
variable {P : Program} {w : World} {K : PySem.W.Frag} {mg : Str → Option Value} {base : Heap}
def sp_windows_of (tabs : List NTab) : Sp := fun vs H Q _ => ∃ (m : Addr) (M : Mach) (n : Nat), vs = [.ref m, .int (n : Int)] ∧ MachAt H m M ∧ M.Ok ∧ M.rows.length ≤ 100000 ∧ 1 ≤ n ∧ n ≤ 3 ∧ TabsN tabs H ∧
  ∀ H' p ys, ExtN H H' → TabsN tabs H' → (∀ b o, H b = some o → (∀ ps, o ≠ .tbl ps) → b ≠ p) → H' p = some (.lst (vS ys)) → IsW M n ys → Q (.ref p) H'
theorem ok_windows_of (T : TX K mg) {tabs : List NTab} (G_ways_of : FnOk P w K mg base CX0 7 T.a_ways_of T.fd_ways_of ["machine"] (sp_ways_of tabs)) (G_windows_of_ways : FnOk P w K mg base CX0 6 T.a_windows_of_ways T.fd_windows_of_ways ["letters", "firsts", "ways", "ended", "size"] (sp_windows_of_ways tabs)) : FnOk P w K mg base CX0 8 T.a_windows_of T.fd_windows_of ["machine", "size"] (sp_windows_of tabs) := by
  refine T.F_windows_of.ok sc_windows_of (fun vs H Q E h => ?_) (fun cdv A outer s H vs Q E hr h => ?_)
  · obtain ⟨m, M, n, rfl, _⟩ := h
    rfl
  · obtain ⟨m, M, n, rfl, mm, k, hb, n1, n3, tb, q⟩ := h
    refine ⟨_, (pss_cons (ps_asg (pe_call G_ways_of (hr.mono (by decide)) (by rfl) T.g_ways_of T.F_ways_of.kp T.b_ways_of .nil pass0 (pa_cons (pv 0) pa_nil)) (pg_tupK (n := 3) K rfl (by rfl) (pgs_cons (pg_name (i := 2) sc_windows_of.nd rfl (Or.inl rfl)) (pgs_cons (pg_name (i := 3) sc_windows_of.nd rfl (Or.inl rfl)) (pgs_cons (pg_name (i := 4) sc_windows_of.nd rfl (Or.inl rfl)) pgs_nil)))))
      (pss_one (ps_ret (pe_call G_windows_of_ways (hr.mono (by decide)) (by rfl) T.g_windows_of_ways T.F_windows_of_ways.kp T.b_windows_of_ways .nil pass0 (pa_cons (pe_ix (ix_tupK K rfl) (pv 0) pe_int (fun _ _ => rfl)) (pa_cons (pv 2) (pa_cons (pv 3) (pa_cons (pv 4) (pa_cons (pv 1) pa_nil))))))))), ?_⟩
    refine ⟨.ref m, rfl, m, M, rfl, mm, k, hb, tb, fun H1 p fa wa ea us x1 tb1 ep efa ew eea uo => ?_⟩
    refine ⟨p, [.ref fa, .ref wa, .ref ea], rfl, .inl (.inl ep), rfl, .ref fa, [.ref wa, .ref ea], rfl, .ref wa, [.ref ea], rfl, .ref ea, [], rfl, rfl, ?_⟩
    obtain ⟨t, e, as, h1, h2, h3, h4⟩ := mm
    have h11 := x1 _ _ h1 (by intro ps z; cases z)
    refine ⟨.ref m, rfl, m, _, 0, .str M.z, rfl, rfl, .inl (.inl h11), rfl, .ref fa, rfl, .ref wa, rfl, .ref ea, rfl, .int (n : Int), rfl, M, fa, wa, ea, n, us, rfl, k, uo, hb, ew, efa, eea, n1, n3, tb1, fun H2 p2 ys x2 tb2 np2 ep2 so nd ln mem => ?_⟩
    exact q H2 p2 ys (x1.trans x2) tb2 (fun b o eb nt => np2 b o (x1 b o eb nt) nt) ep2 ⟨so, nd, ln, mem⟩
/-! ### _law_machine -/
def sp_law_machine : Sp := fun vs H Q _ => ∃ (r : Addr) (z : Str) (most : Nat), vs = [.ref r, .str z, .int (most : Int)] ∧ RowAt H r ∧ IsLet z ∧ 1 ≤ most ∧ most ≤ 1000 ∧
  ∀ H' p (M : Mach), Off r H H' → RowAt H' r → MachAt H' p M → M.Ok → M.z = z → M.rows.length ≤ most → Q (.ref p) H'
theorem ok_law_machine (T : TX K mg) : FnOk P w K mg base CX0 2 T.a_law_machine T.fd_law_machine ["purse", "letters", "most"] sp_law_machine := by
  have G_law_next : FnOk P w K mg base CX0 1 T.a_law_next T.fd_law_next ["purse"] sp_law_next := ok_law_next T
  refine T.F_law_machine.ok sc_law_machine (fun vs H Q E h => ?_) (fun cdv A outer s H vs Q E hr h => ?_)
  · obtain ⟨r, z, most, rfl, _⟩ := h
    rfl
  · obtain ⟨r, z, most, rfl, hR, hz, hm1, hm2, q⟩ := h
    refine ⟨_, (pss_cons (ps_set (i := 3) sc_law_machine.nd rfl (Or.inr rfl) (pe_op op_add pe_int (pe_op op_mod (pe_call G_law_next (hr.mono (by decide)) (by rfl) T.g_law_next T.F_law_next.kp T.b_law_next .nil pass0 (pa_cons (pv 0) pa_nil)) (pv 2))))
      (pss_cons (ps_set (i := 4) sc_law_machine.nd rfl (Or.inl rfl) (pe_lst pa_nil))
      (pss_cons (ps_for PassesOwn.never rfl (pi_range1 (by rfl) T.m_range (pa_cons (pv 3) pa_nil)) (pg_name (i := 5) sc_law_machine.nd rfl (Or.inl rfl))
        (pss_one (ps_expr (pe_bmK K rfl PySem.F.plainAttrs_list PySem.F.slot_list_append PySem.F.type_list_append mt_append (pv 4) (pa_cons (pe_callTy (call_tupleK K rfl) (by rfl) T.m_tuple (by decide +kernel) (pa_cons (pe_lc (own := [("letter", 7)]) (g := gName 7) (tt := tYes) (by rfl) sc_law_machine.nd (pi_str (pv 1)) (blkOk_by (own := [("letter", 7)]) (N := N_law_machine) (by kernel_rfl)) (fun _ _ _ _ _ => (pg_name (i := 7) sc_law_machine.nd rfl (by first | exact Or.inl rfl | exact Or.inr rfl))) (fun _ _ _ _ _ => pts_nil) (fun _ _ _ _ _ => (pe_op op_mod (pe_call G_law_next (hr.mono (by decide)) (by rfl) T.g_law_next T.F_law_next.kp T.b_law_next .nil pass0 (pa_cons (pv 0) pa_nil)) (pv 3)))) pa_nil)) pa_nil)))))
      (pss_cons (ps_setLc (i := 6) (own := [("state", 5)]) (g := gName 5) (by rfl) sc_law_machine.nd rfl rfl (sw_true rfl rfl rfl (by decide +kernel)) (pi_range1 (by rfl) T.m_range (pa_cons (pv 3) pa_nil)) (blkOk_by (own := [("state", 5)]) (N := N_law_machine) (by kernel_rfl)) (fun _ _ _ _ _ => (pg_name (i := 5) sc_law_machine.nd rfl (Or.inl rfl))) (fun _ _ _ _ _ => (pts_one (pt_cmpR op_eq (pe_op op_mod (pe_call G_law_next (hr.mono (by decide)) (by rfl) T.g_law_next T.F_law_next.kp T.b_law_next .nil pass0 (pa_cons (pv 0) pa_nil)) pe_int) pe_int (nomark _)))) (fun _ _ _ _ _ => (pv 5)))
      (C8.pss_cut (ps_if (PW.pt (pw_and (pt_cmpR op_gt (pe_op op_mod (pe_call G_law_next (hr.mono (by decide)) (by rfl) T.g_law_next T.F_law_next.kp T.b_law_next .nil pass0 (pa_cons (pv 0) pa_nil)) pe_int) pe_int (nomark _)) (pw_and1 (pt_cmpR (op_eqD hr.units) (pv 6) (pe_lst pa_nil) (nomark _)))))
        (pss_one (ps_set (i := 6) sc_law_machine.nd rfl (Or.inl rfl) (pe_lst (pa_cons (pe_op op_sub (pv 3) pe_int) pa_nil))))
        pss_nil)
      (pss_one (ps_ret (pe_tup (pa_cons (pv 1) (pa_cons (pe_callTy (call_tupleK K rfl) (by rfl) T.m_tuple (by decide +kernel) (pa_cons (pv 4) pa_nil)) (pa_cons (pe_callTy (call_tupleK K rfl) (by rfl) T.m_tuple (by decide +kernel) (pa_cons (pv 6) pa_nil)) pa_nil))))))))))), ?_⟩
    -- many
    refine ⟨.ref r, rfl, r, rfl, hR, fun H1 g o1 R1 => ⟨.int (most : Int), rfl, g, (most : Int), rfl, rfl, by omega, 1, g % (most : Int), rfl, rfl, ?_⟩⟩
    have g0 := Int.emod_nonneg g (show (most : Int) ≠ 0 by omega)
    have g1 := Int.emod_lt_of_pos g (show (0 : Int) < most by omega)
    obtain ⟨m, hm⟩ : ∃ m : Nat, g % (most : Int) = (m : Int) := ⟨(g % (most : Int)).toNat, by omega⟩
    rw [hm]
    have posm : (0 : Int) < 1 + (m : Int) := by omega
    -- table
    refine ⟨by show 0 ≤ sizeLine; decide, fun D nD => ?_⟩
    have fD : H D = none := o1.free (R1.ne nD) nD
    have rD : r ≠ D := R1.ne nD
    refine ⟨.int (1 + (m : Int)), rfl, 1 + (m : Int), rfl, by omega, by omega, ?_⟩
    refine for_range (lo := 0) (n := (1 + (m : Int)).toNat) (fun i σ H' => (∃ as rows, RowAt H' r ∧ Off r H H' ∧ H' D = some (.lst (vr as)) ∧ RowsAt H' as rows ∧ rows.length = i ∧ ∀ row ∈ rows, row.length = z.length ∧ ∀ t ∈ row, t < m + 1) ∧ ∃ y5, σ = [some (.ref r), some (.str z), some (.int (most : Int)), some (.int (1 + (m : Int))), some (.ref D), y5, none, none]) ⟨⟨[], [], R1.new nD, o1.mut fD, upd_same, ⟨rfl, fun i a row x => by simp at x⟩, rfl, fun _ h => nomatch h⟩, none, rfl⟩ (fun i σ H2 hi hW => ?_) (fun σ H2 hW => ?_)
    · obtain ⟨⟨as, rows, R2, o2, e2, ra, rl, ro⟩, y5, rfl⟩ := hW
      -- table.append(tuple([.. for letter in letters]))
      refine ⟨.ref D, rfl, .inl ⟨rfl, _, .inl (.inl e2)⟩, .str z, rfl, z, rfl, fun D2 n2 => ?_⟩
      have f2 : H D2 = none := o2.free (R2.ne n2) n2
      have r2 : r ≠ D2 := R2.ne n2
      have d2 : D ≠ D2 := ne_of_none e2 n2
      refine lc_it walk_str (fun j H' => ∃ row, RowAt H' r ∧ Off r H H' ∧ H' D = some (.lst (vr as)) ∧ RowsAt H' as rows ∧ H' D2 = some (.lst (vi row)) ∧ row.length = j ∧ ∀ t ∈ row, t < m + 1) ⟨[], R2.new n2, o2.mut f2, by rw [upd_ne d2]; exact e2, ra.mono (Tups.new n2), upd_same, rfl, fun _ h => nomatch h⟩ (fun _ _ _ _ => trivial) (fun j x H3 H3' hj hW hY => ?_) (fun H3 hW => ?_)
      · obtain ⟨row, R3, o3, e3, ra3, w3, l3, t3⟩ := hW
        obtain ⟨rfl, c, hc, rfl⟩ := hY
        refine ⟨rfl, lcyes ?_⟩
        refine ⟨.ref r, rfl, r, rfl, R3, fun H4 g o4 R4 => ⟨.int (1 + (m : Int)), rfl, g, 1 + (m : Int), rfl, rfl, posm, ?_⟩⟩
        have a0 := Int.emod_nonneg g (show 1 + (m : Int) ≠ 0 by omega)
        have a1 := Int.emod_lt_of_pos g posm
        obtain ⟨k, hk⟩ : ∃ k : Nat, g % (1 + (m : Int)) = (k : Int) := ⟨(g % (1 + (m : Int))).toNat, by omega⟩
        refine ⟨vi row, o4 _ _ r2.symm w3, ?_, row ++ [k], R4.upd r2, (o3.trans o4).mut f2, ?_, ?_, ?_, ?_, mem_snoc t3 (by omega)⟩
        · rw [List.length_map, l3]
          refine small1000 ?_
          have := hz.five
          have : j < z.length := hj
          omega
        · rw [upd_ne d2]
          exact o4 _ _ rD.symm e3
        · exact (ra3.mono (Tups.off R3 o4)).mono (Tups.lst (o4 _ _ r2.symm w3))
        · rw [upd_same]
          show some (HO.lst (vi row ++ [V.int (g % (1 + (m : Int)))])) = _
          rw [hk, vi_snoc]
        · rw [List.length_append, l3]
          rfl
      · obtain ⟨row, R3, o3, e3, ra3, w3, l3, t3⟩ := hW
        refine ⟨D2, _, rfl, .inl ⟨.inl (.inl w3), fun p4 n4 => ?_⟩⟩
        have f4 : H p4 = none := o3.free (R3.ne n4) n4
        have d4 : D ≠ p4 := ne_of_none e3 n4
        have ha : (upd H3 p4 (.tup (vi row))) p4 = some (.tup (vi row)) := upd_same
        have e4 : (upd H3 p4 (.tup (vi row))) D = some (.lst (vr as)) := by rw [upd_ne d4]; exact e3
        refine ⟨D, _, _, rfl, rfl, e4, ?_, ⟨as ++ [p4], rows ++ [row], (R3.new n4).upd rD, (o3.mut f4).mut fD, ?_, ?_, ?_, mem_snoc ro ⟨l3, t3⟩⟩, _, rfl⟩
        · rw [List.length_map, ra3.1, rl]
          exact small1000 (by omega)
        · rw [upd_same, vr_snoc]
        · exact ((ra3.mono (Tups.new n4)).snoc ha).mono (Tups.lst (xs := vr as) e4)
        · rw [List.length_append, rl]
          rfl
    · obtain ⟨⟨as, rows, R2, o2, e2, ra, rl, ro⟩, y5, rfl⟩ := hW
      have hrl : rows.length = m + 1 := by
        rw [rl]
        omega
      -- ends
      refine ⟨.int (1 + (m : Int)), rfl, 1 + (m : Int), rfl, by omega, by omega, fun D2 n2 => ?_⟩
      have f2 : H D2 = none := o2.free (R2.ne n2) n2
      have r2 : r ≠ D2 := R2.ne n2
      have d2 : D ≠ D2 := ne_of_none e2 n2
      refine lc_range (lo := 0) (n := (1 + (m : Int)).toNat) (fun i H' => ∃ es, RowAt H' r ∧ Off r H H' ∧ H' D = some (.lst (vr as)) ∧ RowsAt H' as rows ∧ H' D2 = some (.lst (vi es)) ∧ es.length ≤ i ∧ (∀ e ∈ es, e < i) ∧ es.Pairwise (· < ·)) ⟨[], R2.new n2, o2.mut f2, by rw [upd_ne d2]; exact e2, ra.mono (Tups.new n2), upd_same, Nat.le_refl _, (fun _ h => nomatch h), List.Pairwise.nil⟩ (fun i H3 hi hW => ?_) (fun H3 hW => ?_)
      · obtain ⟨es, R3, o3, e3, ra3, w3, l3, t3, p3⟩ := hW
        refine ⟨rfl, .ref r, rfl, r, rfl, R3, fun H4 g o4 R4 => ⟨g, 3, rfl, rfl, (by show (0 : Int) < 3; decide), rfl, _, rfl, ite2 (fun _ => ?_) (fun _ => ?_)⟩⟩
        · have w4 := o4 _ _ r2.symm w3
          refine ⟨.int (0 + (i : Int)), rfl, vi es, w4, ?_, es ++ [i], R4.upd r2, (o3.trans o4).mut f2, by rw [upd_ne d2]; exact o4 _ _ rD.symm e3, (ra3.mono (Tups.off R3 o4)).mono (Tups.lst w4), ?_, ?_, mem_snoc (fun y hy => Nat.lt_succ_of_lt (t3 y hy)) (Nat.lt_succ_self i), ?_⟩
          · rw [List.length_map]
            exact small1000 (by omega)
          · rw [upd_same, Int.zero_add, vi_snoc]
          · rw [List.length_append]
            show es.length + 1 ≤ i + 1
            omega
          · refine List.pairwise_append.mpr ⟨p3, by simp, fun a ha b hb => ?_⟩
            rw [List.mem_singleton.mp hb]
            exact t3 a ha
        · exact ⟨es, R4, o3.trans o4, o4 _ _ rD.symm e3, ra3.mono (Tups.off R3 o4), o4 _ _ r2.symm w3, by omega, fun y hy => Nat.lt_succ_of_lt (t3 y hy), p3⟩
      · obtain ⟨es, R3, o3, e3, ra3, w3, l3, t3, p3⟩ := hW
        have shE := shaped_vi es
        refine ⟨fun σ H' => ∃ (e2 : Addr) (es2 : List Nat) (y5 : Option V), σ = [some (.ref r), some (.str z), some (.int (most : Int)), some (.int (1 + (m : Int))), some (.ref D), y5, some (.ref e2), none] ∧ RowAt H' r ∧ Off r H H' ∧ H' D = some (.lst (vr as)) ∧ RowsAt H' as rows ∧ H' e2 = some (.lst (vi es2)) ∧ (∀ e ∈ es2, e < m + 1) ∧ es2.Pairwise (· < ·), ?_, fun σ H' hM => ?_⟩
        · refine ⟨.ref r, rfl, r, rfl, R3, fun H4 g o4 R4 => ⟨g, 5, rfl, rfl, (by show (0 : Int) < 5; decide), g % 5, 0, rfl, rfl, _, rfl, ?_⟩⟩
          have old : ∃ (e2 : Addr) (es2 : List Nat) (y6 : Option V), [some (V.ref r), some (.str z), some (.int (most : Int)), some (.int (1 + (m : Int))), some (.ref D), y5, some (.ref D2), none] = [some (.ref r), some (.str z), some (.int (most : Int)), some (.int (1 + (m : Int))), some (.ref D), y6, some (.ref e2), none] ∧ RowAt H4 r ∧ Off r H H4 ∧ H4 D = some (.lst (vr as)) ∧ RowsAt H4 as rows ∧ H4 e2 = some (.lst (vi es2)) ∧ (∀ e ∈ es2, e < m + 1) ∧ es2.Pairwise (· < ·) := ⟨D2, es, _, rfl, R4, o3.trans o4, o4 _ _ rD.symm e3, ra3.mono (Tups.off R3 o4), o4 _ _ r2.symm w3, (fun e he => by have := t3 e he; omega), p3⟩
          refine ite2 (fun y => ?_) (fun y => iteF old)
          refine ⟨.ref D2, rfl, by show 0 ≤ sizeLine; decide, fun en nen => ?_⟩
          have sE := same_new (o := .lst []) nen
          have w4 := o4 _ _ r2.symm w3
          refine ⟨.list (es.map fun (n : Nat) => PyData.int (n : Int)), .list [], .lst (.inl (.inl (sE _ _ w4))) (dp_ints es), .lst (.inl (.inl upd_same)) .nil, shE, by decide +kernel, _, rfl, ite2 (fun yy => ?_) (fun yy => ?_)⟩
          · refine ⟨.int (1 + (m : Int)), rfl, 1 + (m : Int), 1, rfl, rfl, by show 1 ≤ sizeLine; decide, fun e2 ne2 => ?_⟩
            have R5 := R4.new (o := .lst []) nen
            have fe : H en = none := (o3.trans o4).free (R4.ne nen) nen
            have fe2 : H e2 = none := ((o3.trans o4).mut fe).free (R5.ne ne2) ne2
            have sF := sE.trans (same_new (o := .lst [V.int (1 + (m : Int) - 1)]) ne2)
            refine ⟨e2, [m], _, rfl, R5.new ne2, ((o3.trans o4).mut fe).mut fe2, sF _ _ (o4 _ _ rD.symm e3), (ra3.mono (Tups.off R3 o4)).mono (Tups.same sF), ?_, fun e he => by rw [List.mem_singleton.mp he]; omega, by simp⟩
            rw [upd_same]
            show some (HO.lst [V.int (1 + (m : Int) - 1)]) = some (HO.lst [V.int (m : Int)])
            rw [show 1 + (m : Int) - 1 = (m : Int) by omega]
          · refine ⟨D2, es, _, rfl, R4.new nen, (o3.trans o4).trans (Off.new nen), sE _ _ (o4 _ _ rD.symm e3), (ra3.mono (Tups.off R3 o4)).mono (Tups.same sE), sE _ _ w4, (fun e he => by have := t3 e he; omega), p3⟩
        · obtain ⟨e2, es2, y5, rfl, R4, o4, e4, ra4, w4, t4, p4'⟩ := hM
          refine ⟨.str z, rfl, .ref D, rfl, D, _, rfl, .inl ⟨.inl (.inl e4), fun p4 n4 => ?_⟩⟩
          have f4 : H p4 = none := o4.free (R4.ne n4) n4
          have R5 := R4.new (o := .tup (vr as)) n4
          have t45 : Tups H' (upd H' p4 (.tup (vr as))) := Tups.new n4
          have w5 : (upd H' p4 (.tup (vr as))) e2 = some (.lst (vi es2)) := same_new n4 _ _ w4
          refine ⟨.ref e2, rfl, e2, _, rfl, .inl ⟨.inl (.inl w5), fun p5 n5 => ?_⟩⟩
          have f5 : H p5 = none := (o4.mut f4).free (R5.ne n5) n5
          have R6 := R5.new (o := .tup (vi es2)) n5
          refine ⟨by show 3 ≤ sizeLine; decide, fun p6 n6 => ?_⟩
          have f6 : H p6 = none := ((o4.mut f4).mut f5).free (R6.ne n6) n6
          have t46 : Tups H' (upd (upd (upd H' p4 (.tup (vr as))) p5 (.tup (vi es2))) p6 (.tup [.str z, .ref p4, .ref p5])) := (t45.trans (Tups.new n5)).trans (Tups.new n6)
          refine q _ p6 ⟨z, rows, es2⟩ (((o4.mut f4).mut f5).mut f6) (R6.new n6) ⟨p4, p5, as, upd_same, ((Tups.new n5).trans (Tups.new n6)) _ _ upd_same, ra4.mono t46, (Tups.new n6) _ _ upd_same⟩ ⟨hz, by show 1 ≤ rows.length; omega, ?_, ?_, p4'⟩ rfl (by show rows.length ≤ most; omega)
          · intro row hrow
            have := ro row hrow
            refine ⟨this.1, fun t ht => ?_⟩
            have := this.2 t ht
            show t < rows.length
            omega
          · intro e he
            have := t4 e he
            show e < rows.length
            omega
end
end LH

namespace LH
open PySem PySem.Spec PyProof.Rows L2 NdefX LamX LU
/-! ### windows by what stands between the marks -/
def wtx (a : Nat) (mid : List Nat) (l : Nat) : List Nat := List.replicate a 94 ++ mid ++ List.replicate l 36
theorem win_form {n k : Nat} {cs : List Nat} (n1 : 1 ≤ n) (hk : k < cs.length + n - 1) : win n (framed n cs) k = wtx (n - 1 - k) ((cs.drop (k - (n - 1))).take (n - (n - 1 - k))) (n - (n - 1 - k) - (cs.length - (k - (n - 1)))) := by
  unfold win framed wtx
  rw [List.append_assoc, List.drop_append, List.drop_append, List.length_replicate, List.drop_replicate, show k - (n - 1) - cs.length = 0 by omega, List.drop_zero]
  rw [List.take_append, List.length_replicate, List.take_of_length_le (by rw [List.length_replicate]; omega), List.take_append, List.length_drop, List.take_replicate, Nat.min_eq_left (by omega), ← List.append_assoc]
section
variable {M : Mach}
/-- a window with a signs ahead, l behind and mid between -/
def Cond (M : Mach) (a : Nat) (mid : List Nat) (l : Nat) : Prop := ∃ s, RchS (RM M) 0 s ∧ (0 < a → s = 0) ∧ LdS (RM M) (finM M) (mid.foldl M.step s) ∧ (0 < l → finM M (mid.foldl M.step s) = true)
theorem win_cond (k : M.Ok) {n : Nat} (n1 : 1 ≤ n) (x : Str) : WinOf M n x ↔ ∃ a mid l, a < n ∧ l < n ∧ a + mid.length + l = n ∧ AllIn M.z mid ∧ Cond M a mid l ∧ x = txt (wtx a mid l) := by
  constructor
  · rintro ⟨cs, hin, e, j, hj, rfl⟩
    have hd : AllIn M.z (cs.drop (j - (n - 1))) := fun c hc => hin c (List.mem_of_mem_drop hc)
    have hm : AllIn M.z ((cs.drop (j - (n - 1))).take (n - (n - 1 - j))) := fun c hc => hd c (List.mem_of_mem_take hc)
    have ht : AllIn M.z (cs.take (j - (n - 1))) := fun c hc => hin c (List.mem_of_mem_take hc)
    have hl : ((cs.drop (j - (n - 1))).take (n - (n - 1 - j))).length = min (n - (n - 1 - j)) (cs.length - (j - (n - 1))) := by rw [List.length_take, List.length_drop]
    have ec : cs.take (j - (n - 1)) ++ cs.drop (j - (n - 1)) = cs := List.take_append_drop _ _
    refine ⟨_, _, _, by omega, by omega, ?_, hm, ⟨M.run (cs.take (j - (n - 1))), rch_fold k _ 0 .refl ht, fun h => ?_, ?_, fun h => ?_⟩, congrArg txt (win_form n1 hj)⟩
    · rw [hl]
      omega
    · rw [show j - (n - 1) = 0 by omega]
      rfl
    · refine lds_fold k ((cs.drop (j - (n - 1))).drop (n - (n - 1 - j))) _ (fold_lt k (fold_lt k k.many ht) hm) (fun c hc => hd c (List.mem_of_mem_drop hc)) ?_
      rw [← List.foldl_append, List.take_append_drop]
      unfold Mach.run
      rw [← List.foldl_append, ec]
      exact e
    · rw [show (cs.drop (j - (n - 1))).take (n - (n - 1 - j)) = cs.drop (j - (n - 1)) from List.take_of_length_le (by rw [List.length_drop]; omega)]
      unfold Mach.run
      rw [← List.foldl_append, ec]
      exact e
  · rintro ⟨a, mid, l, ha, hl, hs, hin, ⟨s, rs, fs, ls, es⟩, rfl⟩
    have slt := rch_lt k rs
    obtain ⟨u, hu, eu, ua⟩ : ∃ u, AllIn M.z u ∧ M.run u = s ∧ (0 < a → u = []) := by
      by_cases z : 0 < a
      · exact ⟨[], (fun _ h => nomatch h), (fs z).symm, fun _ => rfl⟩
      · obtain ⟨u, h1, h2⟩ := rch_word k rs
        exact ⟨u, h1, h2, fun y => absurd y z⟩
    obtain ⟨v, hv, ev, vl⟩ : ∃ v, AllIn M.z v ∧ finM M (v.foldl M.step (mid.foldl M.step s)) = true ∧ (0 < l → v = []) := by
      by_cases z : 0 < l
      · exact ⟨[], (fun _ h => nomatch h), es z, fun _ => rfl⟩
      · obtain ⟨v, h1, h2⟩ := lds_word k ls (fold_lt k slt hin)
        exact ⟨v, h1, h2, fun y => absurd y z⟩
    have hlen : (u ++ (mid ++ v)).length = u.length + (mid.length + v.length) := by rw [List.length_append, List.length_append]
    have hua : 0 < a → u.length = 0 := fun h => by rw [ua h]; rfl
    have hvl : 0 < l → v.length = 0 := fun h => by rw [vl h]; rfl
    have hk : n - 1 + u.length - a < (u ++ (mid ++ v)).length + n - 1 := by
      rw [hlen]
      by_cases z : 0 < a
      · omega
      · omega
    refine ⟨u ++ (mid ++ v), fun c hc => ?_, ?_, n - 1 + u.length - a, hk, congrArg txt ?_⟩
    · rcases List.mem_append.mp hc with h | h
      · exact hu c h
      · exact (List.mem_append.mp h).elim (hin c) (hv c)
    · show finM M ((u ++ (mid ++ v)).foldl M.step 0) = true
      rw [List.foldl_append, List.foldl_append, show u.foldl M.step 0 = s from eu]
      exact ev
    · rw [win_form n1 hk, hlen]
      have e1 : n - 1 - (n - 1 + u.length - a) = a := by
        by_cases z : 0 < a
        · have := hua z
          omega
        · omega
      have e2 : n - 1 + u.length - a - (n - 1) = u.length := by
        by_cases z : 0 < a
        · have := hua z
          omega
        · omega
      rw [e1, e2, List.drop_left]
      have e3 : (mid ++ v).take (n - a) = mid := by
        by_cases z : 0 < l
        · rw [vl z, List.append_nil]
          exact List.take_of_length_le (by omega)
        · rw [show n - a = mid.length by omega, List.take_left]
      have e4 : n - a - (u.length + (mid.length + v.length) - u.length) = l := by
        by_cases z : 0 < l
        · have := hvl z
          omega
        · omega
      rw [e3, e4]
end
theorem wtx_inj {z : Str} (hz : IsLet z) {a b l m : Nat} {u v : List Nat} (hu : AllIn z u) (hv : AllIn z v) (e : wtx a u l = wtx b v m) : a = b ∧ u = v ∧ l = m := by
  have small : ∀ {w : List Nat}, AllIn z w → w.count 94 = 0 ∧ w.count 36 = 0 ∧ w.filter (fun c => decide (97 ≤ c)) = w := fun {w} h => by
    refine ⟨List.count_eq_zero.mpr fun q => ?_, List.count_eq_zero.mpr fun q => ?_, List.filter_eq_self.mpr fun c hc => decide_eq_true (hz.small c (h c hc)).1⟩
    · have := (hz.small _ (h _ q)).1
      omega
    · have := (hz.small _ (h _ q)).1
      omega
  obtain ⟨u1, u2, u3⟩ := small hu
  obtain ⟨v1, v2, v3⟩ := small hv
  refine ⟨?_, ?_, ?_⟩
  · have := congrArg (List.count 94) e
    unfold wtx at this
    rw [List.count_append, List.count_append, List.count_append, List.count_append, u1, v1, List.count_replicate_self, List.count_replicate_self, List.count_replicate, List.count_replicate] at this
    simpa using this
  · have := congrArg (List.filter fun c => decide (97 ≤ c)) e
    unfold wtx at this
    rw [List.filter_append, List.filter_append, List.filter_append, List.filter_append, u3, v3, List.filter_replicate, List.filter_replicate, List.filter_replicate, List.filter_replicate] at this
    simpa using this
  · have := congrArg (List.count 36) e
    unfold wtx at this
    rw [List.count_append, List.count_append, List.count_append, List.count_append, u2, v2, List.count_replicate_self, List.count_replicate_self, List.count_replicate, List.count_replicate] at this
    simpa using this
/-! ### what the law has found so far -/
structure Fnd (M : Mach) (D : Nat → Nat → List Nat → Prop) (fs : List Str) : Prop where
  nd : fs.Nodup
  mem : ∀ x, x ∈ fs ↔ ∃ a l mid, D a l mid ∧ Cond M a mid l ∧ x = txt (wtx a mid l)
theorem Fnd.congr {M : Mach} {D D' : Nat → Nat → List Nat → Prop} {fs : List Str} (h : Fnd M D fs) (e : ∀ a l mid, D a l mid ↔ D' a l mid) : Fnd M D' fs := ⟨h.nd, fun x => by
  rw [h.mem]
  constructor
  · rintro ⟨a, l, mid, d, r⟩
    exact ⟨a, l, mid, (e a l mid).mp d, r⟩
  · rintro ⟨a, l, mid, d, r⟩
    exact ⟨a, l, mid, (e a l mid).mpr d, r⟩⟩
theorem Fnd.no {M : Mach} {D : Nat → Nat → List Nat → Prop} {fs : List Str} {a l : Nat} {mid : List Nat} (h : Fnd M D fs) (c : ¬ Cond M a mid l) : Fnd M (fun a' l' m' => D a' l' m' ∨ (a' = a ∧ l' = l ∧ m' = mid)) fs := ⟨h.nd, fun x => by
  rw [h.mem]
  constructor
  · rintro ⟨a', l', m', d, r⟩
    exact ⟨a', l', m', .inl d, r⟩
  · rintro ⟨a', l', m', d | ⟨rfl, rfl, rfl⟩, r, q⟩
    · exact ⟨a', l', m', d, r, q⟩
    · exact absurd r c⟩
theorem Fnd.yes {M : Mach} (hz : IsLet M.z) {D : Nat → Nat → List Nat → Prop} {fs : List Str} {a l : Nat} {mid : List Nat} (h : Fnd M D fs) (hD : ∀ a l mid, D a l mid → AllIn M.z mid) (hm : AllIn M.z mid) (nD : ¬ D a l mid) (c : Cond M a mid l) : Fnd M (fun a' l' m' => D a' l' m' ∨ (a' = a ∧ l' = l ∧ m' = mid)) (fs ++ [txt (wtx a mid l)]) := by
  refine ⟨List.nodup_append.mpr ⟨h.nd, by simp, fun x hx y hy e => ?_⟩, fun x => ?_⟩
  · rw [List.mem_singleton.mp hy] at e
    obtain ⟨a', l', m', d, _, q⟩ := (h.mem x).mp hx
    rw [q] at e
    obtain ⟨r1, r2, r3⟩ := wtx_inj hz (hD _ _ _ d) hm (txt_inj e)
    subst r1 r2 r3
    exact nD d
  · rw [List.mem_append, List.mem_singleton, h.mem]
    constructor
    · rintro (⟨a', l', m', d, r⟩ | rfl)
      · exact ⟨a', l', m', .inl d, r⟩
      · exact ⟨a, l, mid, .inr ⟨rfl, rfl, rfl⟩, c, rfl⟩
    · rintro ⟨a', l', m', d | ⟨rfl, rfl, rfl⟩, r, q⟩
      · exact .inl ⟨a', l', m', d, r, q⟩
      · exact .inr q
/-! ### states that are come to, and those that lead on -/
theorem rch_closed {R : Nat → List Nat} {fs : List Nat} (h0 : 0 ∈ fs) (hc : ∀ s ∈ fs, ∀ t ∈ R s, t ∈ fs) {s : Nat} (h : RchS R 0 s) : s ∈ fs := by
  induction h with
  | refl => exact h0
  | step _ ht ih => exact hc _ ih _ ht
def ClosedG (R : Nat → List Nat) (n : Nat) (gs : List Nat) : Prop := ∀ s, s < n → (∃ t ∈ R s, t ∈ gs) → s ∈ gs
theorem lds_closed {M : Mach} (k : M.Ok) {gs : List Nat} (he : ∀ e ∈ M.ends, e ∈ gs) (hc : ClosedG (RM M) M.rows.length gs) {s : Nat} (h : LdS (RM M) (finM M) s) : s < M.rows.length → s ∈ gs := by
  induction h with
  | stop h => exact fun _ => he _ (of_decide_eq_true h)
  | step ht _ ih => exact fun hl => hc _ hl ⟨_, ht, ih ((k.row _ (List.mem_of_getElem? (RM_row hl))).2 _ ht)⟩
end LH

namespace LH
open PySem PySem.Spec PyProof.Rows L2 NdefX LamX LU
theorem eqv_nilN (ns : List Nat) : PyData.eqv (.list (ns.map fun (n : Nat) => PyData.int (n : Int))) (.list []) = decide (ns = []) := by
  cases ns with
  | nil => rfl
  | cons n r => rfl
section
variable {P : Program} {w : World} {K : PySem.W.Frag} {mg : Str → Option Value} {base : Heap}
/-! ### _law_behind -/
def sp_law_behind : Sp := fun vs H Q _ => ∃ (m : Addr) (s : Nat) (word : Str) (M : Mach), vs = [.ref m, .int (s : Int), .str word] ∧ MachAt H m M ∧ M.Ok ∧ s < M.rows.length ∧ (∀ c ∈ word.cps.toList, c ∈ M.z.cps.toList) ∧ Q (.int (word.cps.toList.foldl M.step s : Nat)) H
theorem ok_law_behind (T : TX K mg) : FnOk P w K mg base CX0 1 T.a_law_behind T.fd_law_behind ["machine", "state", "word"] sp_law_behind := by
  refine T.F_law_behind.ok sc_law_behind (fun vs H Q E h => ?_) (fun cdv A outer s H vs Q E hr h => ?_)
  · obtain ⟨m, s0, word, M, rfl, _⟩ := h
    rfl
  · obtain ⟨m, s0, word, M, rfl, ⟨t, e, as, h1, h2, h3, h4⟩, k, hs0, hw, q⟩ := h
    refine ⟨_, (pss_cons (ps_for PassesOwn.never rfl (pi_str (pv 2)) (pg_name (i := 3) sc_law_behind.nd rfl (Or.inl rfl))
        (pss_one (ps_set (i := 1) sc_law_behind.nd rfl (Or.inl rfl) (pe_ix (ix_tupK K rfl) (pe_ix (ix_tupK K rfl) (pe_ix (ix_tupK K rfl) (pv 0) pe_int (fun _ _ => rfl)) (pv 1) (fun _ _ => rfl)) (pe_m1 PySem.F.slot_str_index PySem.F.type_str_index mt_sindex (pe_ix (ix_tupK K rfl) (pv 0) pe_int (fun _ _ => rfl)) (pv 3)) (fun _ _ => rfl)))))
      (pss_one (ps_ret (pv 1)))), ?_⟩
    have q1 : SqT K H m [.str M.z, .ref t, .ref e] := .inl (.inl h1)
    refine ⟨.str word, rfl, word, rfl, ?_⟩
    refine for_it walk_str (fun i σ H' => H' = H ∧ ∃ y3, σ = [some (.ref m), some (.int ((word.cps.toList.take i).foldl M.step s0 : Nat)), some (.str word), y3]) ⟨rfl, none, rfl⟩ (fun _ _ _ _ _ => trivial) (fun i x σ H1 H1' hi hW hY => ?_) (fun σ H1 hW => ?_)
    · obtain ⟨rfl, y3, rfl⟩ := hW
      obtain ⟨rfl, c, hc, rfl⟩ := hY
      have hc' : word.cps.toList[i]? = some c := by
        rw [Array.getElem?_toList]
        exact hc
      have hcz := hw c (List.mem_of_getElem? hc')
      have hs : (word.cps.toList.take i).foldl M.step s0 < M.rows.length := k.run_lt _ _ hs0 fun d hd => hw d (List.mem_of_mem_take hd)
      obtain ⟨row, er, ei, _⟩ := k.step_at hs hcz
      obtain ⟨a, _, ea, ha⟩ := h3.get er
      obtain ⟨rest, eo⟩ := occ_sign hcz
      refine ⟨.ref m, rfl, m, _, 1, .ref t, rfl, rfl, q1, rfl, .int ((word.cps.toList.take i).foldl M.step s0 : Nat), rfl, t, _, _, _, rfl, rfl, .inl (.inl h2), atI_nat ea, .ref m, rfl, m, _, 0, .str M.z, rfl, rfl, q1, rfl, ⟨_, rfl⟩, .str (sg c), rfl, M.z, sg c, _, rest, rfl, rfl, eo, a, _, _, .int (M.step ((word.cps.toList.take i).foldl M.step s0) c : Nat), rfl, rfl, .inl (.inl ha), atI_nat ?_, rfl, some (.str (sg c)), ?_⟩
      · rw [List.getElem?_map, ei]
        rfl
      · rw [take_snocQ hc', fold_snoc]
        rfl
    · obtain ⟨rfl, y3, rfl⟩ := hW
      have et : word.cps.toList.take word.cps.size = word.cps.toList := List.take_of_length_le (by rw [Array.length_toList]; exact Nat.le_refl _)
      rw [et]
      exact ⟨.int (word.cps.toList.foldl M.step s0 : Nat), rfl, q⟩
/-! ### _law_come_to -/
def sp_law_come_to : Sp := fun vs H Q _ => ∃ (m : Addr) (M : Mach), vs = [.ref m] ∧ MachAt H m M ∧ M.Ok ∧ M.rows.length ≤ 100000 ∧ ∀ H' p rs, Same H H' → H p = none → H' p = some (.lst (vi rs)) → rs.length ≤ M.rows.length → (∀ s, s ∈ rs ↔ RchS (RM M) 0 s) → Q (.ref p) H'
theorem ok_law_come_to (T : TX K mg) : FnOk P w K mg base CX0 1 T.a_law_come_to T.fd_law_come_to ["machine"] sp_law_come_to := by
  refine T.F_law_come_to.ok sc_law_come_to (fun vs H Q E h => ?_) (fun cdv A outer s H vs Q E hr h => ?_)
  · obtain ⟨m, M, rfl, _⟩ := h
    rfl
  · obtain ⟨p, M, rfl, ⟨t, e, as, h1, h2, h3, h4⟩, k, hb, q⟩ := h
    refine ⟨_, (pss_cons (ps_set (i := 1) sc_law_come_to.nd rfl (Or.inl rfl) (pe_lst (pa_cons pe_int pa_nil)))
      (pss_cons (ps_set (i := 2) sc_law_come_to.nd rfl (Or.inl rfl) pe_int)
      (pss_cons (ps_while PassesOwn.never (pt_cmpR op_lt (pv 2) (pe_callB (call_lenK K rfl) (by rfl) T.m_len (by decide +kernel) (pa_cons (pv 1) pa_nil)) (nomark _))
        (pss_cons (ps_for PassesOwn.never rfl (pi_tupK K rfl (pe_ix (ix_tupK K rfl) (pe_ix (ix_tupK K rfl) (pv 0) pe_int (fun _ _ => rfl)) (pe_ix (ix_listK K rfl) (pv 1) (pv 2) (fun _ _ => rfl)) (fun _ _ => rfl))) (pg_name (i := 3) sc_law_come_to.nd rfl (Or.inl rfl))
            (pss_one (ps_if (pt_cmpR (op_notIn_seqK K rfl) (pv 3) (pv 1) (by rfl))
                (pss_one (ps_expr (pe_bmK K rfl PySem.F.plainAttrs_list PySem.F.slot_list_append PySem.F.type_list_append mt_append (pv 1) (pa_cons (pv 3) pa_nil))))
                pss_nil)))
          (pss_one (ps_set (i := 2) sc_law_come_to.nd rfl (Or.inl rfl) (pe_op op_add (pv 2) pe_int)))))
      (pss_one (ps_ret (pv 1)))))), ?_⟩
    have sl' : ∀ m, m ≤ 1000000 → m < sizeLine := fun m hm => Nat.lt_of_le_of_lt hm (by decide)
    have al : as.length = M.rows.length := h3.1
    have fewN : ∀ fs : List Nat, fs.Nodup → (∀ s ∈ fs, RchS (RM M) 0 s) → fs.length ≤ M.rows.length := fun fs nd hs => by
      have := len_le_of_sub nd (ys := List.range M.rows.length) fun x hx => List.mem_range.mpr (rch_lt k (hs x hx))
      rwa [List.length_range] at this
    refine ⟨by show 1 ≤ sizeLine; decide, fun f nf => ?_⟩
    have s1 := same_new (o := .lst [.int 0]) nf
    refine ⟨fun n σ G => ∃ (a : Nat) (fs : List Nat) (y3 : Option V), n + a = M.rows.length + 1 ∧ a ≤ fs.length ∧ σ = [some (.ref p), some (.ref f), some (.int (a : Int)), y3] ∧ Same H G ∧ G f = some (.lst (vi fs)) ∧ fs.Nodup ∧ 0 ∈ fs ∧ (∀ s ∈ fs, RchS (RM M) 0 s) ∧ ∀ i s, i < a → fs[i]? = some s → ∀ u ∈ RM M s, u ∈ fs, ⟨M.rows.length + 1, 0, [0], none, rfl, by decide, rfl, s1, upd_same, by simp, by simp, (fun s hs => by rw [List.mem_singleton.mp hs]; exact .refl), fun i s h => absurd h (Nat.not_lt_zero _)⟩, fun n σ G hW => ?_⟩
    obtain ⟨a, fs, y3, hn, haf, rfl, sG, ef, nd, z0, hs, hcl⟩ := hW
    have few := fewN fs nd hs
    refine ⟨.int (a : Int), rfl, .ref f, rfl, f, _, rfl, .inl (.inl (.inl ef)), _, _, rfl, rfl, _, rfl, ite2 (fun z => ?_) (fun z => ?_)⟩
    · have hlt : a < fs.length := by
        have : (a : Int) < ((vi fs).length : Nat) := of_decide_eq_true z
        rw [List.length_map] at this
        omega
      have hfa := List.getElem?_eq_getElem hlt
      have hfm := List.getElem_mem hlt
      generalize fs[a] = x at hfa hfm
      have hx := rch_lt k (hs x hfm)
      have hrow := RM_row hx
      obtain ⟨b, _, eb, hbt⟩ := h3.get hrow
      have rl : (RM M x).length = M.z.length := hR_of k x hx
      refine ⟨fun σ' G' => ∃ (fs : List Nat) (y3 : Option V), a + 1 ≤ fs.length ∧ σ' = [some (.ref p), some (.ref f), some (.int ((a + 1 : Nat) : Int)), y3] ∧ Same H G' ∧ G' f = some (.lst (vi fs)) ∧ fs.Nodup ∧ 0 ∈ fs ∧ (∀ s ∈ fs, RchS (RM M) 0 s) ∧ ∀ i s, i < a + 1 → fs[i]? = some s → ∀ u ∈ RM M s, u ∈ fs, fun σ' G' hN => ?_, ?_⟩
      · obtain ⟨fs', y3, r1, r2, r3⟩ := hN
        exact ⟨n - 1, by omega, a + 1, fs', y3, by omega, r1, r2, r3⟩
      refine ⟨.ref p, rfl, p, _, 1, .ref t, rfl, rfl, .inl (.inl (sG _ _ h1)), atI_nat (j := 1) rfl, .ref f, rfl, .int (a : Int), rfl, f, _, _, .int (x : Int), rfl, rfl, .inl (.inl ef), atI_nat (by rw [List.getElem?_map, hfa]; rfl), t, _, _, .ref b, rfl, rfl, .inl (.inl (sG _ _ h2)), atI_nat eb, b, rfl, ⟨_, .inl (.inl (sG _ _ hbt))⟩, ?_⟩
      refine for_it (walk_tup (K := K) (a := b) (xs := vi (RM M x))) (fun c σ G' => ∃ (gs : List Nat) (y3 : Option V), σ = [some (.ref p), some (.ref f), some (.int (a : Int)), y3] ∧ Same H G' ∧ G' f = some (.lst (vi gs)) ∧ gs.Nodup ∧ (∀ s ∈ gs, RchS (RM M) 0 s) ∧ (∃ more, gs = fs ++ more) ∧ ∀ u ∈ (RM M x).take c, u ∈ gs) ⟨fs, y3, rfl, sG, ef, nd, hs, ⟨[], (List.append_nil _).symm⟩, fun u hu => by rw [List.take_zero] at hu; cases hu⟩ (fun c σ G' _ hP => by obtain ⟨_, _, _, s, _⟩ := hP; exact .inl (.inl (s _ _ hbt))) (fun c v σ G2 G2' hc hW hY => ?_) (fun σ G2 hW => ?_)
      · obtain ⟨gs, y3, rfl, s2, eg, ndg, hsg, ⟨more, em⟩, hin⟩ := hW
        obtain ⟨rfl, hv⟩ := hY
        obtain ⟨u, hu, rfl⟩ := int_at hv
        have hru : RchS (RM M) 0 u := .step (hs x hfm) (List.mem_of_getElem? hu)
        have fewg := fewN gs ndg hsg
        refine ⟨.int (u : Int), rfl, .ref f, rfl, f, _, rfl, .inl (.inl (.inl eg)), rfl, flat_vi _, _, rfl, ?_⟩
        have ev : (if true = true then !inV (.int (u : Int)) (vi gs) else inV (.int (u : Int)) (vi gs)) = decide (u ∉ gs) := by
          rw [if_pos rfl, inV_vi]
          by_cases h : u ∈ gs <;> simp [h]
        rw [ev]
        refine ite2 (fun g => ?_) (fun g => ?_)
        · have g := of_decide_eq_true g
          refine ⟨.ref f, rfl, .inl ⟨rfl, _, .inl (.inl eg)⟩, .int (u : Int), rfl, f, _, _, rfl, rfl, eg, sl' _ (by rw [List.length_map]; omega), gs ++ [u], _, rfl, ?_, by rw [upd_same, vi_snoc], ?_, mem_snoc hsg hru, ⟨more ++ [u], by rw [em, List.append_assoc]⟩, fun y hy => ?_⟩
          · intro b o eb
            rw [upd_ne (ne_of_none eb nf)]
            exact s2 _ _ eb
          · refine List.nodup_append.mpr ⟨ndg, by simp, fun y hy y2 hy2 e2 => ?_⟩
            rw [List.mem_singleton.mp hy2] at e2
            exact g (e2 ▸ hy)
          · rw [take_snocQ hu] at hy
            rcases List.mem_append.mp hy with hy | hy
            · exact List.mem_append_left _ (hin y hy)
            · exact List.mem_append_right _ hy
        · have g : u ∈ gs := Classical.byContradiction fun h => g (decide_eq_true h)
          refine ⟨gs, _, rfl, s2, eg, ndg, hsg, ⟨more, em⟩, fun y hy => ?_⟩
          rw [take_snocQ hu] at hy
          rcases List.mem_append.mp hy with hy | hy
          · exact hin y hy
          · rw [List.mem_singleton.mp hy]
            exact g
      · obtain ⟨gs, y3, rfl, s2, eg, ndg, hsg, ⟨more, em⟩, hin⟩ := hW
        rw [List.length_map, List.take_of_length_le (Nat.le_refl _)] at hin
        refine ⟨.int (a : Int), rfl, (a : Int), 1, rfl, rfl, gs, _, by rw [em, List.length_append]; omega, rfl, s2, eg, ndg, by rw [em]; exact List.mem_append_left _ z0, hsg, fun i s' hi hs' u hu => ?_⟩
        have hil : i < fs.length := by omega
        rw [em, List.getElem?_append_left hil] at hs'
        by_cases q : i = a
        · subst q
          rw [hfa] at hs'
          cases hs'
          exact hin u hu
        · rw [em]
          exact List.mem_append_left _ (hcl i s' (by omega) hs' u hu)
    · have hge : fs.length ≤ a := by
        have : ¬ (a : Int) < ((vi fs).length : Nat) := fun y => z (decide_eq_true y)
        rw [List.length_map] at this
        omega
      refine ⟨.ref f, rfl, q G f fs sG nf ef few fun s => ⟨hs s, fun h => rch_closed z0 (fun s hs' t ht => ?_) h⟩⟩
      obtain ⟨i, hi⟩ := List.mem_iff_getElem?.mp hs'
      have := (List.getElem?_eq_some_iff.mp hi).1
      exact hcl i s (by omega) hi t ht
/-! ### _law_good -/
def sp_law_good : Sp := fun vs H Q _ => ∃ (m : Addr) (M : Mach), vs = [.ref m] ∧ MachAt H m M ∧ M.Ok ∧ M.rows.length ≤ 100000 ∧ ∀ H' p gs, Same H H' → H p = none → H' p = some (.lst (vi gs)) → gs.length ≤ M.rows.length → (∀ s, s ∈ gs ↔ s < M.rows.length ∧ LdS (RM M) (finM M) s) → Q (.ref p) H'
theorem ok_law_good (T : TX K mg) : FnOk P w K mg base CX0 1 T.a_law_good T.fd_law_good ["machine"] sp_law_good := by
  refine T.F_law_good.ok sc_law_good (fun vs H Q E h => ?_) (fun cdv A outer s H vs Q E hr h => ?_)
  · obtain ⟨m, M, rfl, _⟩ := h
    rfl
  · obtain ⟨p, M, rfl, ⟨t, e, as, h1, h2, h3, h4⟩, k, hb, q⟩ := h
    refine ⟨_, (pss_cons (ps_set (i := 1) sc_law_good.nd rfl (Or.inr rfl) (pe_callTy (call_listK K rfl) (by rfl) T.m_list (by decide +kernel) (pa_cons (pe_ix (ix_tupK K rfl) (pv 0) pe_int (fun _ _ => rfl)) pa_nil)))
      (pss_cons (ps_for PassesOwn.never rfl (pi_range1 (by rfl) T.m_range (pa_cons (pe_callB (call_lenK K rfl) (by rfl) T.m_len (by decide +kernel) (pa_cons (pe_ix (ix_tupK K rfl) (pv 0) pe_int (fun _ _ => rfl)) pa_nil)) pa_nil)) (pg_name (i := 2) sc_law_good.nd rfl (Or.inl rfl))
        (pss_one (ps_for PassesOwn.never rfl (pi_range1 (by rfl) T.m_range (pa_cons (pe_callB (call_lenK K rfl) (by rfl) T.m_len (by decide +kernel) (pa_cons (pe_ix (ix_tupK K rfl) (pv 0) pe_int (fun _ _ => rfl)) pa_nil)) pa_nil)) (pg_name (i := 3) sc_law_good.nd rfl (Or.inl rfl))
            (pss_one (ps_if (PW.pt (pw_and (pt_cmpR (op_notIn_seqK K rfl) (pv 3) (pv 1) (by rfl)) (pw_and1 (pt_cmpR (op_neD hr.units) (pe_lc (own := [("one", 4)]) (g := gName 4) (by rfl) sc_law_good.nd (pi_tupK K rfl (pe_ix (ix_tupK K rfl) (pe_ix (ix_tupK K rfl) (pv 0) pe_int (fun _ _ => rfl)) (pv 3) (fun _ _ => rfl))) (blkOk_by (own := [("one", 4)]) (N := N_law_good) (by kernel_rfl)) (fun _ _ _ _ _ => (pg_name (i := 4) sc_law_good.nd rfl (by first | exact Or.inl rfl | exact Or.inr rfl))) (fun _ _ _ _ _ => (pts_one (pt_cmpR (op_in_seqK K rfl) (pv 4) (pv 1) (by rfl)))) (fun _ _ _ _ _ => (pv 4))) (pe_lst pa_nil) (nomark _)))))
                (pss_one (ps_expr (pe_bmK K rfl PySem.F.plainAttrs_list PySem.F.slot_list_append PySem.F.type_list_append mt_append (pv 1) (pa_cons (pv 3) pa_nil))))
                pss_nil)))))
      (pss_one (ps_ret (pv 1))))), ?_⟩
    have sl' : ∀ m, m ≤ 1000000 → m < sizeLine := fun m hm => Nat.lt_of_le_of_lt hm (by decide)
    have al : as.length = M.rows.length := h3.1
    have fewN : ∀ fs : List Nat, fs.Nodup → (∀ s ∈ fs, s < M.rows.length) → fs.length ≤ M.rows.length := fun fs nd hs => by
      have := len_le_of_sub nd (ys := List.range M.rows.length) fun x hx => List.mem_range.mpr (hs x hx)
      rwa [List.length_range] at this
    refine ⟨.ref p, rfl, p, _, 2, .ref e, rfl, rfl, .inl (.inl h1), atI_nat (j := 2) rfl, e, _, rfl, .inr (.inl (.inl h4)), fun f nf => ?_⟩
    have s1 := same_new (o := .lst (vi M.ends)) nf
    have ndE : M.ends.Nodup := k.rise.imp fun h => Nat.ne_of_lt h
    refine ⟨.ref p, rfl, p, _, 1, .ref t, rfl, rfl, .inl (.inl (s1 _ _ h1)), atI_nat (j := 1) rfl, t, _, rfl, .inr (.inl (.inl (s1 _ _ h2))), ((vr as).length : Int), rfl, ?_, ?_, ?_⟩
    · omega
    · rw [List.length_map, al]; omega
    have turns : ((vr as).length : Int).toNat = M.rows.length := by rw [List.length_map, al, Int.toNat_natCast]
    refine for_range (lo := 0) (n := ((vr as).length : Int).toNat) (fun t' σ G => Same H G ∧ ∃ (gs : List Nat) (y2 y3 : Option V), G f = some (.lst (vi gs)) ∧ gs.Nodup ∧ (∀ s ∈ gs, s < M.rows.length ∧ LdS (RM M) (finM M) s) ∧ (∀ e ∈ M.ends, e ∈ gs) ∧ (ClosedG (RM M) M.rows.length gs ∨ t' ≤ gs.length) ∧ σ = [some (.ref p), some (.ref f), y2, y3, none]) ⟨s1, M.ends, none, none, upd_same, ndE, (fun s hs => ⟨k.endl s hs, .stop (decide_eq_true hs)⟩), (fun e he => he), .inr (Nat.zero_le _), rfl⟩ (fun t' σ G ht hW => ?_) (fun σ G hW => ?_)
    · obtain ⟨sG, gs, y2, y3, ef, nd, hs, he, pr, rfl⟩ := hW
      refine ⟨.ref p, rfl, p, _, 1, .ref t, rfl, rfl, .inl (.inl (sG _ _ h1)), atI_nat (j := 1) rfl, t, _, rfl, .inr (.inl (.inl (sG _ _ h2))), ((vr as).length : Int), rfl, by omega, by rw [List.length_map, al]; omega, ?_⟩
      refine for_range (lo := 0) (n := ((vr as).length : Int).toNat) (fun j σ G => Same H G ∧ ∃ (gs' : List Nat) (y3 : Option V), G f = some (.lst (vi gs')) ∧ gs'.Nodup ∧ (∀ s ∈ gs', s < M.rows.length ∧ LdS (RM M) (finM M) s) ∧ (∀ e ∈ M.ends, e ∈ gs') ∧ ((gs' = gs ∧ ∀ s, s < j → (∃ t ∈ RM M s, t ∈ gs) → s ∈ gs) ∨ gs.length < gs'.length) ∧ (ClosedG (RM M) M.rows.length gs → gs' = gs) ∧ σ = [some (.ref p), some (.ref f), some (.int (0 + (t' : Int))), y3, none]) ⟨sG, gs, y3, ef, nd, hs, he, .inl ⟨rfl, fun s h => absurd h (Nat.not_lt_zero _)⟩, (fun _ => rfl), rfl⟩ (fun j σ G1 hj hW => ?_) (fun σ G1 hW => ?_)
      · obtain ⟨s2, gs', y3, ef2, nd2, hs2, he2, pr2, cl2, rfl⟩ := hW
        rw [turns] at hj
        rw [show (0 : Int) + (j : Int) = ((j : Nat) : Int) from Int.zero_add _]
        have hrow := RM_row hj
        obtain ⟨b, _, eb, hbt⟩ := h3.get hrow
        have few2 := fewN gs' nd2 fun s hs => (hs2 s hs).1
        have l5 := k.let_.five
        have rl : (RM M j).length = M.z.length := hR_of k j hj
        have rlt := fun u (hu : u ∈ RM M j) => (k.row _ (List.mem_of_getElem? hrow)).2 u hu
        refine ⟨.int (j : Int), rfl, .ref f, rfl, f, _, rfl, .inl (.inl (.inl ef2)), rfl, flat_vi _, _, rfl, ?_⟩
        have ev : (if true = true then !inV (.int (j : Int)) (vi gs') else inV (.int (j : Int)) (vi gs')) = decide (j ∉ gs') := by
          rw [if_pos rfl, inV_vi]
          by_cases h : j ∈ gs' <;> simp [h]
        rw [ev]
        have stay : ∀ G2 : Hp, Same H G2 → G2 f = some (.lst (vi gs')) → (j ∈ gs' ∨ ∀ u ∈ RM M j, u ∉ gs') → Same H G2 ∧ ∃ (gs' : List Nat) (y3 : Option V), G2 f = some (.lst (vi gs')) ∧ gs'.Nodup ∧ (∀ s ∈ gs', s < M.rows.length ∧ LdS (RM M) (finM M) s) ∧ (∀ e ∈ M.ends, e ∈ gs') ∧ ((gs' = gs ∧ ∀ s, s < j + 1 → (∃ t ∈ RM M s, t ∈ gs) → s ∈ gs) ∨ gs.length < gs'.length) ∧ (ClosedG (RM M) M.rows.length gs → gs' = gs) ∧ [some (V.ref p), some (.ref f), some (.int (0 + (t' : Int))), some (.int (j : Int)), none] = [some (.ref p), some (.ref f), some (.int (0 + (t' : Int))), y3, none] := fun G2 sm eg hc => ⟨sm, gs', _, eg, nd2, hs2, he2, pr2.elim (fun ⟨e1, e2⟩ => .inl ⟨e1, fun s hsj ⟨u, hu, hug⟩ => by
          by_cases q : s = j
          · subst q
            rw [e1] at hc
            exact hc.elim id fun h => absurd hug (h u hu)
          · exact e2 s (by omega) ⟨u, hu, hug⟩⟩) .inr, cl2, rfl⟩
        refine ite2 (fun g => ?_) (fun g => ?_)
        · have g := of_decide_eq_true g
          refine ⟨.ref p, rfl, p, _, 1, .ref t, rfl, rfl, .inl (.inl (s2 _ _ h1)), atI_nat (j := 1) rfl, .int (j : Int), rfl, t, _, _, .ref b, rfl, rfl, .inl (.inl (s2 _ _ h2)), atI_nat eb, b, rfl, ⟨_, .inl (.inl (s2 _ _ hbt))⟩, fun D nD => ?_⟩
          have fD : f ≠ D := ne_of_none ef2 nD
          refine lc_it (walk_tup (K := K) (a := b) (xs := vi (RM M j))) (fun i G2 => Same G1 G2 ∧ ∃ lk : List Nat, G2 D = some (.lst (vi lk)) ∧ lk.length ≤ i ∧ (lk = [] ↔ ∀ u ∈ (RM M j).take i, u ∉ gs')) ⟨same_new nD, [], upd_same, Nat.le_refl _, ⟨(fun _ u hu => by rw [List.take_zero] at hu; cases hu), fun _ => rfl⟩⟩ (fun i G2 _ hW => .inl (.inl (hW.1 _ _ (s2 _ _ hbt)))) (fun i y G2 G2' hi hW hY => ?_) (fun G2 hW => ?_)
          · obtain ⟨s3, lk, eD, ll, iff⟩ := hW
            obtain ⟨rfl, hy⟩ := hY
            obtain ⟨u, hu, rfl⟩ := int_at hy
            rw [List.length_map] at hi
            refine ⟨rfl, .int (u : Int), rfl, .ref f, rfl, f, _, rfl, .inl (.inl (.inl (s3 _ _ ef2))), rfl, flat_vi _, _, rfl, ?_⟩
            have ev2 : (if false = true then !inV (.int (u : Int)) (vi gs') else inV (.int (u : Int)) (vi gs')) = decide (u ∈ gs') := by
              rw [if_neg (by decide), inV_vi]
            rw [ev2]
            refine ite2 (fun g2 => ?_) (fun g2 => ?_)
            · have g2 := of_decide_eq_true g2
              refine ⟨.int (u : Int), rfl, vi lk, eD, sl' _ (by rw [List.length_map]; omega), same_putN s3 nD, lk ++ [u], by rw [upd_same, vi_snoc], by rw [List.length_append]; show lk.length + 1 ≤ i + 1; omega, ⟨fun h => absurd h (by simp), fun h => absurd g2 (h u (by rw [take_snocQ hu]; exact List.mem_append_right _ (List.mem_singleton.mpr rfl)))⟩⟩
            · have g2 : u ∉ gs' := fun h => g2 (decide_eq_true h)
              refine ⟨s3, lk, eD, by omega, ?_⟩
              rw [iff, take_snocQ hu]
              constructor
              · intro h y hy
                rcases List.mem_append.mp hy with hy | hy
                · exact h y hy
                · rw [List.mem_singleton.mp hy]
                  exact g2
              · intro h y hy
                exact h y (List.mem_append_left _ hy)
          · obtain ⟨s3, lk, eD, ll, iff⟩ := hW
            rw [List.length_map] at ll iff
            rw [List.take_of_length_le (Nat.le_refl _)] at iff
            refine ⟨by show 0 ≤ sizeLine; decide, fun en nen => ?_⟩
            have s4 := s3.trans (same_new (o := .lst []) nen)
            refine ⟨.list (lk.map fun (n : Nat) => PyData.int (n : Int)), .list [], .lst (.inl (.inl (same_new nen _ _ eD))) (dp_ints lk), .lst (.inl (.inl upd_same)) .nil, shaped_vi lk, by decide +kernel, _, rfl, ?_⟩
            rw [eqv_nilN]
            refine ite2 (fun g2 => ?_) (fun g2 => ?_)
            · have hne : lk ≠ [] := fun e => by
                rw [decide_eq_true e] at g2
                cases g2
              obtain ⟨u, hu, hug⟩ : ∃ u ∈ RM M j, u ∈ gs' := Classical.byContradiction fun h => hne (iff.mpr fun u hu hug => h ⟨u, hu, hug⟩)
              have hlj : LdS (RM M) (finM M) j := .step hu (hs2 u hug).2
              have ef4 := s4 _ _ ef2
              refine ⟨.ref f, rfl, .inl ⟨rfl, _, .inl (.inl ef4)⟩, .int (j : Int), rfl, f, _, _, rfl, rfl, ef4, sl' _ (by rw [List.length_map]; omega), ?_, gs' ++ [j], _, by rw [upd_same, vi_snoc], ?_, mem_snoc hs2 ⟨hj, hlj⟩, fun e he' => List.mem_append_left _ (he2 e he'), .inr ?_, fun hc => ?_, rfl⟩
              · intro b' o eb'
                rw [upd_ne (ne_of_none eb' nf)]
                exact s4 _ _ (s2 _ _ eb')
              · refine List.nodup_append.mpr ⟨nd2, by simp, fun y hy y2 hy2 e2 => ?_⟩
                rw [List.mem_singleton.mp hy2] at e2
                exact g (e2 ▸ hy)
              · rw [List.length_append]
                show gs.length < gs'.length + 1
                rcases pr2 with ⟨e1, _⟩ | h
                · rw [e1]; omega
                · omega
              · have e1 := cl2 hc
                rw [e1] at g hug
                exact absurd (hc j hj ⟨u, hu, hug⟩) g
            · have hnil : lk = [] := Classical.byContradiction fun e => g2 (by rw [decide_eq_false e]; rfl)
              exact stay _ (s2.trans s4) (s4 _ _ ef2) (.inr (iff.mp hnil))
        · have g : j ∈ gs' := Classical.byContradiction fun h => g (decide_eq_true h)
          exact stay _ s2 ef2 (.inl g)
      · obtain ⟨s2, gs', y3, ef2, nd2, hs2, he2, pr2, cl2, rfl⟩ := hW
        rw [turns] at pr2
        refine ⟨s2, gs', _, _, ef2, nd2, hs2, he2, ?_, rfl⟩
        rcases pr2 with ⟨e1, e2⟩ | h
        · exact .inl (by rw [e1]; exact e2)
        · rcases pr with hc | h2
          · exact .inl (by rw [cl2 hc]; exact hc)
          · exact .inr (by omega)
    · obtain ⟨sG, gs, y2, y3, ef, nd, hs, he, pr, rfl⟩ := hW
      rw [turns] at pr
      have few := fewN gs nd fun s h => (hs s h).1
      have hc : ClosedG (RM M) M.rows.length gs := by
        rcases pr with hc | h
        · exact hc
        · intro s hs' _
          refine Classical.byContradiction fun q => ?_
          have := len_le_of_sub (xs := s :: gs) (List.nodup_cons.mpr ⟨q, nd⟩) (ys := List.range M.rows.length) fun x hx => List.mem_range.mpr ((List.mem_cons.mp hx).elim (fun e => e ▸ hs') fun h => (hs x h).1)
          rw [List.length_range, List.length_cons] at this
          omega
      exact ⟨.ref f, rfl, q G f gs sG nf ef few fun s => ⟨hs s, fun h => lds_closed k he hc h.2 h.1⟩⟩
end
end LH

namespace LH
open PySem PySem.Spec PyProof.Rows L2 NdefX LamX LU
def Dst (z : Str) (n a0 l0 : Nat) (ok : List Nat → Prop) : Nat → Nat → List Nat → Prop := fun a l mid => AllIn z mid ∧ a + mid.length + l = n ∧ l < n ∧ a < n ∧ (a < a0 ∨ (a = a0 ∧ l < l0) ∨ (a = a0 ∧ l = l0 ∧ ok mid))
theorem dst_step {z : Str} {n a l j : Nat} {ts : List Str} {x : Str} (h : ts[j]? = some x) (hin : AllIn z x.cps.toList) (hs : a + x.cps.toList.length + l = n) (hl : l < n) (ha : a < n) (a' l' : Nat) (m' : List Nat) :
    (Dst z n a l (fun m => txt m ∈ ts.take j) a' l' m' ∨ (a' = a ∧ l' = l ∧ m' = x.cps.toList)) ↔ Dst z n a l (fun m => txt m ∈ ts.take (j + 1)) a' l' m' := by
  unfold Dst
  rw [take_snocQ h]
  constructor
  · rintro (⟨h1, h2, h3, h4, h5⟩ | ⟨rfl, rfl, rfl⟩)
    · refine ⟨h1, h2, h3, h4, ?_⟩
      rcases h5 with h | h | ⟨h, h', h''⟩
      · exact .inl h
      · exact .inr (.inl h)
      · exact .inr (.inr ⟨h, h', List.mem_append_left _ h''⟩)
    · exact ⟨hin, hs, hl, ha, .inr (.inr ⟨rfl, rfl, List.mem_append_right _ (by rw [txt_list]; exact List.mem_singleton.mpr rfl)⟩)⟩
  · rintro ⟨h1, h2, h3, h4, h5⟩
    rcases h5 with h | h | ⟨h, h', h''⟩
    · exact .inl ⟨h1, h2, h3, h4, .inl h⟩
    · exact .inl ⟨h1, h2, h3, h4, .inr (.inl h)⟩
    · rcases List.mem_append.mp h'' with q | q
      · exact .inl ⟨h1, h2, h3, h4, .inr (.inr ⟨h, h', q⟩)⟩
      · refine .inr ⟨h, h', ?_⟩
        have := List.mem_singleton.mp q
        exact txt_inj (this.trans (txt_list x).symm)
theorem dst_texts {z : Str} {n a l : Nat} {ts : List Str} (hall : ∀ x : Str, x.length = n - a - l → (∀ c ∈ x.cps.toList, c ∈ z.cps.toList) → x ∈ ts) (a' l' : Nat) (m' : List Nat) : Dst z n a l (fun m => txt m ∈ ts) a' l' m' ↔ Dst z n a (l + 1) (fun _ => False) a' l' m' := by
  unfold Dst
  constructor
  · rintro ⟨h1, h2, h3, h4, h5⟩
    refine ⟨h1, h2, h3, h4, ?_⟩
    rcases h5 with h | h | ⟨h, h', _⟩
    · exact .inl h
    · exact .inr (.inl ⟨h.1, by omega⟩)
    · exact .inr (.inl ⟨h, by omega⟩)
  · rintro ⟨h1, h2, h3, h4, h5⟩
    refine ⟨h1, h2, h3, h4, ?_⟩
    rcases h5 with h | ⟨h, h'⟩ | ⟨_, _, h⟩
    · exact .inl h
    · by_cases q : l' < l
      · exact .inr (.inl ⟨h, q⟩)
      · refine .inr (.inr ⟨h, by omega, hall _ ?_ h1⟩)
        rw [txt_len]
        omega
    · exact h.elim
theorem dst_last {z : Str} {n a b : Nat} (hb : b = min n (n - a + 1)) (a' l' : Nat) (m' : List Nat) : Dst z n a b (fun _ => False) a' l' m' ↔ Dst z n (a + 1) 0 (fun _ => False) a' l' m' := by
  unfold Dst
  constructor
  · rintro ⟨h1, h2, h3, h4, h5⟩
    refine ⟨h1, h2, h3, h4, ?_⟩
    rcases h5 with h | ⟨h, h'⟩ | ⟨_, _, h⟩
    · exact .inl (by omega)
    · exact .inl (by omega)
    · exact h.elim
  · rintro ⟨h1, h2, h3, h4, h5⟩
    refine ⟨h1, h2, h3, h4, ?_⟩
    rcases h5 with h | ⟨_, h⟩ | ⟨_, _, h⟩
    · by_cases q : a' < a
      · exact .inl q
      · exact .inr (.inl ⟨by omega, by omega⟩)
    · exact absurd h (Nat.not_lt_zero _)
    · exact h.elim
theorem dst_none {z : Str} {n a l : Nat} {ts : List Str} (a' l' : Nat) (m' : List Nat) : Dst z n a l (fun _ => False) a' l' m' ↔ Dst z n a l (fun m => txt m ∈ ts.take 0) a' l' m' := by
  unfold Dst
  rw [List.take_zero]
  simp
section
variable {P : Program} {w : World} {K : PySem.W.Frag} {mg : Str → Option Value} {base : Heap}
/-! ### _law_is -/
def sp_law_is : Sp := fun vs H Q _ => ∃ (m : Addr) (M : Mach) (rp gp : Addr) (rs gs : List Nat) (a l : Nat) (mid : List Nat), vs = [.ref m, .ref rp, .ref gp, .int (a : Int), .str (txt mid), .int (l : Int)] ∧ MachAt H m M ∧ M.Ok ∧ M.rows.length ≤ 100000 ∧ H rp = some (.lst (vi rs)) ∧ rs.length ≤ 100000 ∧ (∀ s, s ∈ rs ↔ RchS (RM M) 0 s) ∧ H gp = some (.lst (vi gs)) ∧ (∀ s, s ∈ gs ↔ s < M.rows.length ∧ LdS (RM M) (finM M) s) ∧ AllIn M.z mid ∧
  ∀ H' b, Same H H' → (b = true ↔ Cond M a mid l) → Q (.bl b) H'
theorem ok_law_is (T : TX K mg) : FnOk P w K mg base CX0 2 T.a_law_is T.fd_law_is ["machine", "reached", "good", "ahead", "middle", "last"] sp_law_is := by
  have G_law_behind : FnOk P w K mg base CX0 1 T.a_law_behind T.fd_law_behind ["machine", "state", "word"] sp_law_behind := ok_law_behind T
  refine T.F_law_is.ok sc_law_is (fun vs H Q E h => ?_) (fun cdv A outer s H vs Q E hr h => ?_)
  · obtain ⟨m, M, rp, gp, rs, gs, a, l, mid, rfl, _⟩ := h
    rfl
  · obtain ⟨m, M, rp, gp, rs, gs, a, l, mid, rfl, mm, k, hb, erp, lrs, hrs, egp, hgs, hin, q⟩ := h
    refine ⟨_, (pss_cons (ps_set (i := 6) sc_law_is.nd rfl (Or.inl rfl) (pv 1))
      (C8.pss_cut (ps_if (pt_cmpR op_gt (pv 3) pe_int (nomark _))
        (pss_one (ps_set (i := 6) sc_law_is.nd rfl (Or.inl rfl) (pe_lst (pa_cons pe_int pa_nil))))
        pss_nil)
      (pss_cons (ps_set (i := 7) sc_law_is.nd rfl (Or.inr rfl) (pv 2))
      (C8.pss_cut (ps_if (pt_cmpR op_gt (pv 5) pe_int (nomark _))
        (pss_one (ps_set (i := 7) sc_law_is.nd rfl (Or.inr rfl) (pe_ix (ix_tupK K rfl) (pv 0) pe_int (fun _ _ => rfl))))
        pss_nil)
      (pss_one (ps_ret (pe_cmpR (op_neD hr.units) (pe_lc (own := [("state", 8)]) (g := gName 8) (by rfl) sc_law_is.nd (pi_listK K rfl (pv 6)) (blkOk_by (own := [("state", 8)]) (N := N_law_is) (by kernel_rfl)) (fun _ _ _ _ _ => (pg_name (i := 8) sc_law_is.nd rfl (by first | exact Or.inl rfl | exact Or.inr rfl))) (fun _ _ _ _ _ => (pts_one (pt_cmpR (op_in_seqK K rfl) (pe_call G_law_behind (hr.mono (by decide)) (by rfl) T.g_law_behind T.F_law_behind.kp T.b_law_behind .nil pass0 (pa_cons (pv 0) (pa_cons (pv 8) (pa_cons (pv 4) pa_nil)))) (pv 7) (by rfl)))) (fun _ _ _ _ _ => (pv 8))) (pe_lst pa_nil) (nomark _)))))))), ?_⟩
    have sl' : ∀ m, m ≤ 1000000 → m < sizeLine := fun m hm => Nat.lt_of_le_of_lt hm (by decide)
    obtain ⟨t, e, as, h1, h2, h3, h4⟩ := id mm
    refine ⟨.ref rp, rfl, ?_⟩
    refine ⟨fun σ G => ∃ (sp : Addr) (ss : List Nat), σ = [some (.ref m), some (.ref rp), some (.ref gp), some (.int (a : Int)), some (.str (txt mid)), some (.int (l : Int)), some (.ref sp), none, none] ∧ Same H G ∧ G sp = some (.lst (vi ss)) ∧ ss.length ≤ 100000 ∧ ∀ s, s ∈ ss ↔ RchS (RM M) 0 s ∧ (0 < a → s = 0), ?_, fun σ G hM => ?_⟩
    · refine ⟨.int (a : Int), rfl, (a : Int), 0, rfl, rfl, _, rfl, ite2 (fun y => ?_) (fun y => ?_)⟩
      · have ha : 0 < a := by
          have := of_decide_eq_true y
          omega
        refine ⟨by show 1 ≤ sizeLine; decide, fun sp nsp => ⟨sp, [0], rfl, same_new nsp, upd_same, by decide, fun s => ?_⟩⟩
        rw [List.mem_singleton]
        exact ⟨fun h => ⟨by rw [h]; exact .refl, fun _ => h⟩, fun h => h.2 ha⟩
      · have ha : ¬ 0 < a := fun h => y (decide_eq_true (show (a : Int) > 0 by omega))
        exact ⟨rp, rs, rfl, Same.refl _, erp, lrs, fun s => by rw [hrs]; exact ⟨fun h => ⟨h, fun z => absurd z ha⟩, fun h => h.1⟩⟩
    · obtain ⟨sp, ss, rfl, s1, esp, lss, hss⟩ := hM
      refine ⟨.ref gp, rfl, ?_⟩
      refine ⟨fun σ G2 => ∃ (g : Addr) (gs' : List Nat), σ = [some (.ref m), some (.ref rp), some (.ref gp), some (.int (a : Int)), some (.str (txt mid)), some (.int (l : Int)), some (.ref sp), some (.ref g), none] ∧ G2 = G ∧ (G g = some (.lst (vi gs')) ∨ G g = some (.tup (vi gs'))) ∧ ∀ s, s < M.rows.length → (s ∈ gs' ↔ LdS (RM M) (finM M) s ∧ (0 < l → finM M s = true)), ?_, fun σ G2 hM => ?_⟩
      · refine ⟨.int (l : Int), rfl, (l : Int), 0, rfl, rfl, _, rfl, ite2 (fun y => ?_) (fun y => ?_)⟩
        · have hl : 0 < l := by
            have := of_decide_eq_true y
            omega
          refine ⟨.ref m, rfl, m, _, 2, .ref e, rfl, rfl, .inl (.inl (s1 _ _ h1)), atI_nat (j := 2) rfl, e, M.ends, rfl, rfl, .inr (s1 _ _ h4), fun s _ => ?_⟩
          exact ⟨fun h => ⟨.stop (decide_eq_true h), fun _ => decide_eq_true h⟩, fun h => of_decide_eq_true (h.2 hl)⟩
        · have hl : ¬ 0 < l := fun h => y (decide_eq_true (show (l : Int) > 0 by omega))
          refine ⟨gp, gs, rfl, rfl, .inl (s1 _ _ egp), fun s hs => ?_⟩
          rw [hgs]
          exact ⟨fun h => ⟨h.2, fun z => absurd z hl⟩, fun h => ⟨hs, h.1⟩⟩
      · obtain ⟨g, gs', rfl, rfl, eg, hg⟩ := hM
        refine ⟨.ref sp, rfl, sp, rfl, ⟨_, .inl (.inl esp)⟩, fun D nD => ?_⟩
        refine lc_it (walk_list (K := K) (a := sp) (xs := vi ss)) (fun i G => Same G2 G ∧ ∃ lk : List Nat, G D = some (.lst (vi lk)) ∧ lk.length ≤ i ∧ (lk = [] ↔ ∀ s ∈ ss.take i, mid.foldl M.step s ∉ gs')) ⟨same_new nD, [], upd_same, Nat.le_refl _, ⟨(fun _ u hu => by rw [List.take_zero] at hu; cases hu), fun _ => rfl⟩⟩ (fun i G _ hW => .inl (.inl (hW.1 _ _ esp))) (fun i y G3 G3' hi hW hY => ?_) (fun G3 hW => ?_)
        · obtain ⟨s3, lk, eD, ll, iff⟩ := hW
          obtain ⟨rfl, hy⟩ := hY
          obtain ⟨u, hu, rfl⟩ := int_at hy
          rw [List.length_map] at hi
          have hru := ((hss u).mp (List.mem_of_getElem? hu)).1
          have sq : SqL K G3' g (vi gs') ∨ SqT K G3' g (vi gs') := eg.elim (fun h => .inl (.inl (.inl (s3 _ _ h)))) fun h => .inr (.inl (.inl (s3 _ _ h)))
          refine ⟨rfl, .ref m, rfl, .int (u : Int), rfl, .str (txt mid), rfl, m, u, txt mid, M, rfl, (mm.mono (Tups.same s1)).mono (Tups.same s3), k, rch_lt k hru, hin, .ref g, rfl, g, _, rfl, sq, rfl, flat_vi _, _, rfl, ?_⟩
          have ev2 : (if false = true then !inV (.int ((txt mid).cps.toList.foldl M.step u : Nat)) (vi gs') else inV (.int ((txt mid).cps.toList.foldl M.step u : Nat)) (vi gs')) = decide (mid.foldl M.step u ∈ gs') := by
            rw [if_neg (by decide), inV_vi]
          rw [ev2]
          refine ite2 (fun g2 => ?_) (fun g2 => ?_)
          · have g2 := of_decide_eq_true g2
            refine ⟨.int (u : Int), rfl, vi lk, eD, sl' _ (by rw [List.length_map]; omega), same_putN s3 nD, lk ++ [u], by rw [upd_same, vi_snoc], by rw [List.length_append]; show lk.length + 1 ≤ i + 1; omega, ⟨fun h => absurd h (by simp), fun h => absurd g2 (h u (by rw [take_snocQ hu]; exact List.mem_append_right _ (List.mem_singleton.mpr rfl)))⟩⟩
          · have g2 : mid.foldl M.step u ∉ gs' := fun h => g2 (decide_eq_true h)
            refine ⟨s3, lk, eD, by omega, ?_⟩
            rw [iff, take_snocQ hu]
            constructor
            · intro h y hy
              rcases List.mem_append.mp hy with hy | hy
              · exact h y hy
              · rw [List.mem_singleton.mp hy]
                exact g2
            · intro h y hy
              exact h y (List.mem_append_left _ hy)
        · obtain ⟨s3, lk, eD, ll, iff⟩ := hW
          rw [List.length_map] at iff
          rw [List.take_of_length_le (Nat.le_refl _)] at iff
          refine ⟨by show 0 ≤ sizeLine; decide, fun en nen => ?_⟩
          have s4 := s3.trans (same_new (o := .lst []) nen)
          refine ⟨.list (lk.map fun (n : Nat) => PyData.int (n : Int)), .list [], .lst (.inl (.inl (same_new nen _ _ eD))) (dp_ints lk), .lst (.inl (.inl upd_same)) .nil, shaped_vi lk, by decide +kernel, ?_⟩
          rw [eqv_nilN]
          refine q _ _ (s1.trans s4) ?_
          have e1 : (!decide (lk = [])) = true ↔ lk ≠ [] := by
            by_cases z : lk = [] <;> simp [z]
          rw [e1]
          constructor
          · intro hne
            refine Classical.byContradiction fun no => hne (iff.mpr fun s hs hm => no ?_)
            obtain ⟨r1, r2⟩ := (hss s).mp hs
            obtain ⟨l1, l2⟩ := (hg _ (fold_lt k (rch_lt k r1) hin)).mp hm
            exact ⟨s, r1, r2, l1, l2⟩
          · rintro ⟨s, r1, r2, l1, l2⟩ e
            exact iff.mp e s ((hss s).mpr ⟨r1, r2⟩) ((hg _ (fold_lt k (rch_lt k r1) hin)).mpr ⟨l1, l2⟩)
/-! ### _law_due -/
def sp_law_due : Sp := fun vs H Q _ => ∃ (m : Addr) (M : Mach) (n : Nat), vs = [.ref m, .int (n : Int)] ∧ MachAt H m M ∧ M.Ok ∧ M.rows.length ≤ 100000 ∧ 1 ≤ n ∧ n ≤ 3 ∧
  ∀ H' p ys, Same H H' → H p = none → H' p = some (.lst (vS ys)) → sortedS ys = true → ys.Nodup → ys.length ≤ 10000 → (∀ x, x ∈ ys ↔ WinOf M n x) → Q (.ref p) H'
theorem ok_law_due (T : TX K mg) : FnOk P w K mg base CX0 3 T.a_law_due T.fd_law_due ["machine", "size"] sp_law_due := by
  have G_law_come_to : FnOk P w K mg base CX0 1 T.a_law_come_to T.fd_law_come_to ["machine"] sp_law_come_to := ok_law_come_to T
  have G_law_good : FnOk P w K mg base CX0 1 T.a_law_good T.fd_law_good ["machine"] sp_law_good := ok_law_good T
  have G_law_is : FnOk P w K mg base CX0 2 T.a_law_is T.fd_law_is ["machine", "reached", "good", "ahead", "middle", "last"] sp_law_is := ok_law_is T
  have G_law_texts : FnOk P w K mg base CX0 1 T.a_law_texts T.fd_law_texts ["letters", "size"] sp_law_texts := ok_law_texts T
  refine T.F_law_due.ok sc_law_due (fun vs H Q E h => ?_) (fun cdv A outer s H vs Q E hr h => ?_)
  · obtain ⟨m, M, n, rfl, _⟩ := h
    rfl
  · obtain ⟨m, M, n, rfl, mm, k, hb, n1, n3, q⟩ := h
    refine ⟨_, (pss_cons (ps_set (i := 2) sc_law_due.nd rfl (Or.inl rfl) (pe_call G_law_come_to (hr.mono (by decide)) (by rfl) T.g_law_come_to T.F_law_come_to.kp T.b_law_come_to .nil pass0 (pa_cons (pv 0) pa_nil)))
      (pss_cons (ps_set (i := 3) sc_law_due.nd rfl (Or.inl rfl) (pe_call G_law_good (hr.mono (by decide)) (by rfl) T.g_law_good T.F_law_good.kp T.b_law_good .nil pass0 (pa_cons (pv 0) pa_nil)))
      (pss_cons (ps_set (i := 4) sc_law_due.nd rfl (Or.inl rfl) (pe_lst pa_nil))
      (pss_cons (ps_for PassesOwn.never rfl (pi_range1 (by rfl) T.m_range (pa_cons (pv 1) pa_nil)) (pg_name (i := 5) sc_law_due.nd rfl (Or.inl rfl))
        (pss_one (ps_for PassesOwn.never rfl (pi_range1 (by rfl) T.m_range (pa_cons (pe_callB (call_min2 rfl) (by rfl) T.m_min (by decide +kernel) (pa_cons (pv 1) (pa_cons (pe_op op_add (pe_op op_sub (pv 1) (pv 5)) pe_int) pa_nil))) pa_nil)) (pg_name (i := 6) sc_law_due.nd rfl (Or.inl rfl))
            (pss_one (ps_for PassesOwn.never rfl (pi_listK K rfl (pe_call G_law_texts (hr.mono (by decide)) (by rfl) T.g_law_texts T.F_law_texts.kp T.b_law_texts .nil pass0 (pa_cons (pe_ix (ix_tupK K rfl) (pv 0) pe_int (fun _ _ => rfl)) (pa_cons (pe_op op_sub (pe_op op_sub (pv 1) (pv 5)) (pv 6)) pa_nil)))) (pg_name (i := 7) sc_law_due.nd rfl (Or.inl rfl))
                (pss_one (ps_if (pt_val (pe_call G_law_is (hr.mono (by decide)) (by rfl) T.g_law_is T.F_law_is.kp T.b_law_is .nil pass0 (pa_cons (pv 0) (pa_cons (pv 2) (pa_cons (pv 3) (pa_cons (pv 5) (pa_cons (pv 7) (pa_cons (pv 6) pa_nil))))))))
                    (pss_one (ps_expr (pe_bmK K rfl PySem.F.plainAttrs_list PySem.F.slot_list_append PySem.F.type_list_append mt_append (pv 4) (pa_cons (pe_op op_add_str (pe_op op_add_str (pe_op op_repZ pe_str (pv 5)) (pv 7)) (pe_op op_repZ pe_str (pv 6))) pa_nil))))
                    pss_nil)))))))
      (pss_one (ps_ret (pe_callB (call_sortedX K rfl hr.units) (by rfl) T.m_sorted (by decide +kernel) (pa_cons (pv 4) pa_nil)))))))), ?_⟩
    have sl : ∀ m, m ≤ 1000000 → m ≤ sizeLine := fun m hm => Nat.le_trans hm (by decide)
    have sl' : ∀ m, m ≤ 1000000 → m < sizeLine := fun m hm => Nat.lt_of_le_of_lt hm (by decide)
    have hz := k.let_
    have l5 := hz.five
    refine ⟨.ref m, rfl, m, M, rfl, mm, k, hb, fun H1 rp rs s1 nrp erp lrs hrs => ?_⟩
    refine ⟨.ref m, rfl, m, M, rfl, mm.mono (Tups.same s1), k, hb, fun H2 gp gs s2 ngp egp lgs hgs => ?_⟩
    have erp2 := s2 _ _ erp
    have s02 := s1.trans s2
    have mm2 := mm.mono (Tups.same s02)
    refine ⟨by show 0 ≤ sizeLine; decide, fun f nf => ?_⟩
    have s3 := same_new (o := .lst []) nf
    refine ⟨.int (n : Int), rfl, (n : Int), rfl, by omega, by omega, ?_⟩
    refine for_range (lo := 0) (n := (n : Int).toNat) (fun a σ G => Same H2 G ∧ ∃ (fs : List Str) (y5 y6 y7 : Option V), G f = some (.lst (vS fs)) ∧ fs.length ≤ 3000 * a ∧ Fnd M (Dst M.z n a 0 fun _ => False) fs ∧ σ = [some (.ref m), some (.int (n : Int)), some (.ref rp), some (.ref gp), some (.ref f), y5, y6, y7]) ⟨s3, [], none, none, none, upd_same, Nat.zero_le _, ⟨List.nodup_nil, fun x => ⟨(fun h => nomatch h), fun ⟨a, l, mid, ⟨_, _, _, _, h⟩, _⟩ => by rcases h with h | ⟨_, h⟩ | ⟨_, _, h⟩ <;> first | exact h.elim | exact absurd h (Nat.not_lt_zero _)⟩⟩, rfl⟩ (fun a σ G hai hW => ?_) (fun σ G hW => ?_)
    · obtain ⟨sG, fs, y5, y6, y7, ef, lf, fnd, rfl⟩ := hW
      have han : a < n := by omega
      have mn : (if ((n : Int) - (0 + (a : Int)) + 1) < (n : Int) then ((n : Int) - (0 + (a : Int)) + 1) else (n : Int)) = ((min n (n - a + 1) : Nat) : Int) := by
        split <;> omega
      refine ⟨.int (n : Int), rfl, .int (n : Int), rfl, .int (0 + (a : Int)), rfl, _, _, rfl, rfl, _, 1, rfl, rfl, _, _, rfl, _, rfl, ?_, ?_, ?_⟩
      · rw [mn]; omega
      · rw [mn]; omega
      rw [mn]
      refine for_range (lo := 0) (n := (((min n (n - a + 1) : Nat) : Int)).toNat) (fun l σ G => Same H2 G ∧ ∃ (fs : List Str) (y6 y7 : Option V), G f = some (.lst (vS fs)) ∧ fs.length ≤ 3000 * a + 1000 * l ∧ Fnd M (Dst M.z n a l fun _ => False) fs ∧ σ = [some (.ref m), some (.int (n : Int)), some (.ref rp), some (.ref gp), some (.ref f), some (.int (0 + (a : Int))), y6, y7]) ⟨sG, fs, y6, y7, ef, by omega, fnd, rfl⟩ (fun l σ G hli hW => ?_) (fun σ G hW => ?_)
      · obtain ⟨sG, fs, y6, y7, ef, lf, fnd, rfl⟩ := hW
        rw [Int.toNat_natCast] at hli
        have hln : l < n := by omega
        have hla : l ≤ n - a := by omega
        have pm : M.z.length ^ (n - a - l) ≤ 1000 := Nat.le_trans (Nat.pow_le_pow_left l5 _) (Nat.le_trans (Nat.pow_le_pow_right (by decide) (show n - a - l ≤ 3 by omega)) (by decide))
        obtain ⟨t, e, as, h1, h2, h3, h4⟩ := id (mm2.mono (Tups.same sG))
        refine ⟨.ref m, rfl, m, _, 0, .str M.z, rfl, rfl, .inl (.inl h1), rfl, .int (n : Int), rfl, .int (0 + (a : Int)), rfl, _, _, rfl, rfl, .int (0 + (l : Int)), rfl, _, _, rfl, rfl, M.z, n - a - l, ?_, hz, by omega, pm, fun G2 tp ts s4 ntp etp ltp wtp alltp => ?_⟩
        · show [V.str M.z, V.int ((n : Int) - (0 + (a : Int)) - (0 + (l : Int)))] = _
          rw [show (n : Int) - (0 + (a : Int)) - (0 + (l : Int)) = ((n - a - l : Nat) : Int) by omega]
        have ndz : M.z.cps.toList.Nodup := hz.rise.imp fun h => Nat.ne_of_lt h
        have ndt : ts.Nodup := by
          refine (perm_sub ((wl M.z.cps.toList (n - a - l)).map txt) ts (List.pairwise_map.mpr ((wl_nd ndz _).imp fun h e => h (txt_inj e))) ?_ fun x hx => ?_).nodup_iff.mpr (List.pairwise_map.mpr ((wl_nd ndz _).imp fun h e => h (txt_inj e)))
          · rw [ltp, List.length_map, wl_len, Array.length_toList]
            rfl
          · obtain ⟨y, hy, rfl⟩ := List.mem_map.mp hx
            obtain ⟨y1, y2⟩ := (mem_wl _ _ _).mp hy
            exact alltp _ (by rw [txt_len]; exact y1) y2
        have ef4 := s4 _ _ ef
        refine ⟨tp, rfl, ⟨_, .inl (.inl etp)⟩, ?_⟩
        refine for_it (walk_list (K := K) (a := tp) (xs := vS ts)) (fun j σ G' => Same H2 G' ∧ G' tp = some (.lst (vS ts)) ∧ ∃ (fs : List Str) (y7 : Option V), G' f = some (.lst (vS fs)) ∧ fs.length ≤ 3000 * a + 1000 * l + j ∧ Fnd M (Dst M.z n a l fun m => txt m ∈ ts.take j) fs ∧ σ = [some (.ref m), some (.int (n : Int)), some (.ref rp), some (.ref gp), some (.ref f), some (.int (0 + (a : Int))), some (.int (0 + (l : Int))), y7]) ⟨sG.trans s4, etp, fs, y7, ef4, by omega, fnd.congr dst_none, rfl⟩ (fun j σ G' _ hW => .inl (.inl hW.2.1)) (fun j y σ G3 G3' hj hW hY => ?_) (fun σ G3 hW => ?_)
        · obtain ⟨sG3, etp3, fs, y7, ef3, lf3, fnd3, rfl⟩ := hW
          obtain ⟨rfl, hy⟩ := hY
          obtain ⟨x, hx, rfl⟩ := str_at hy
          rw [List.length_map] at hj
          obtain ⟨xl, xc⟩ := wtp x (List.mem_of_getElem? hx)
          have xl2 : x.cps.toList.length = n - a - l := by rw [Array.length_toList]; exact xl
          have ftp : f ≠ tp := ne_of_none ef ntp
          have hst := dst_step (z := M.z) (n := n) (a := a) (l := l) hx xc (by rw [xl2]; omega) hln han
          refine ⟨.ref m, rfl, .ref rp, rfl, .ref gp, rfl, .int (0 + (a : Int)), rfl, .str x, rfl, .int (0 + (l : Int)), rfl, m, M, rp, gp, rs, gs, a, l, x.cps.toList, ?_, mm2.mono (Tups.same sG3), k, hb, sG3 _ _ erp2, by omega, hrs, sG3 _ _ egp, hgs, xc, fun G4 b s5 hbc => ⟨b, rfl, ?_⟩⟩
          · rw [txt_list, Int.zero_add, Int.zero_add]
            rfl
          cases b with
          | true =>
            refine iteT ?_
            have hc := hbc.mp rfl
            have ef5 := s5 _ _ ef3
            have ea : (0 + (a : Int)).toNat = a := by omega
            have el : (0 + (l : Int)).toNat = l := by omega
            have la : (repS (Str.ofString "^") (0 + (a : Int)).toNat).length ≤ 3 := by
              rw [ea, s_front, repS_sg, txt_len, List.length_replicate]; omega
            have lb : (repS (Str.ofString "$") (0 + (l : Int)).toNat).length ≤ 3 := by
              rw [el, s_back, repS_sg, txt_len, List.length_replicate]; omega
            have lab : (repS (Str.ofString "^") (0 + (a : Int)).toNat ++ x).length ≤ 6 := by
              rw [ea, s_front, repS_sg, ← txt_list x, txt_app, txt_len, List.length_append, List.length_replicate, xl2]
              omega
            refine ⟨.ref f, rfl, .inl ⟨rfl, _, .inl (.inl ef5)⟩, .int (0 + (a : Int)), rfl, Str.ofString "^", _, rfl, rfl, by omega, by omega, by decide, .str x, rfl, _, x, rfl, rfl, sl _ (by omega), .int (0 + (l : Int)), rfl, Str.ofString "$", _, rfl, rfl, by omega, by omega, by decide, _, _, rfl, rfl, sl _ (by omega), f, _, _, rfl, rfl, ef5, sl' _ (by rw [List.length_map]; omega), ?_, ?_, fs ++ [txt (wtx a x.cps.toList l)], _, ?_, ?_, ?_, rfl⟩
            · intro b' o eb'
              rw [upd_ne (ne_of_none eb' nf)]
              exact s5 _ _ (sG3 _ _ eb')
            · rw [upd_ne ftp.symm]
              exact s5 _ _ etp3
            · have ew : repS (Str.ofString "^") (0 + (a : Int)).toNat ++ x ++ repS (Str.ofString "$") (0 + (l : Int)).toNat = txt (wtx a x.cps.toList l) := by
                rw [ea, el, s_front, s_back, repS_sg, repS_sg]
                conv => lhs; rw [← txt_list x]
                rw [txt_app, txt_app]
                rfl
              rw [upd_same, ← ew, vS_snoc]
            · rw [List.length_append]
              show fs.length + 1 ≤ _
              omega
            · refine (Fnd.yes hz fnd3 (fun _ _ _ h => h.1) xc (fun h => ?_) hc).congr hst
              rcases h.2.2.2.2 with h | ⟨_, h⟩ | ⟨_, _, h⟩
              · omega
              · omega
              · rw [txt_list] at h
                obtain ⟨i, hi, e⟩ := List.getElem_of_mem h
                rw [List.getElem_take] at e
                rw [List.length_take] at hi
                have hj2 := (List.getElem?_eq_some_iff.mp hx)
                obtain ⟨hj3, e2⟩ := hj2
                have : i = j := (List.getElem_inj (h₀ := by omega) (h₁ := hj3) ndt).mp (e.trans e2.symm)
                omega
          | false =>
            refine iteF ⟨sG3.trans s5, s5 _ _ etp3, fs, _, s5 _ _ ef3, by omega, (fnd3.no fun hc => ?_).congr hst, rfl⟩
            have := hbc.mpr hc
            cases this
        · obtain ⟨sG3, etp3, fs, y7, ef3, lf3, fnd3, rfl⟩ := hW
          rw [List.length_map] at lf3 fnd3
          rw [List.take_of_length_le (Nat.le_refl _)] at fnd3
          have : ts.length ≤ 1000 := by rw [ltp]; exact pm
          exact ⟨sG3, fs, _, _, ef3, by omega, fnd3.congr (dst_texts alltp), rfl⟩
      · obtain ⟨sG, fs, y6, y7, ef, lf, fnd, rfl⟩ := hW
        rw [Int.toNat_natCast] at lf fnd
        exact ⟨sG, fs, _, _, _, ef, by omega, fnd.congr (dst_last rfl), rfl⟩
    · obtain ⟨sG, fs, y5, y6, y7, ef, lf, fnd, rfl⟩ := hW
      rw [Int.toNat_natCast] at lf fnd
      refine ⟨.ref f, rfl, f, fs, rfl, .inl (.inl ef), fun ys p pm st np => ?_⟩
      refine q _ p ys ((s02.trans sG).trans (same_new np)) ((s02.trans sG).free np) upd_same st (pm.nodup_iff.mpr fnd.nd) (by rw [pm.length_eq]; omega) fun x => ?_
      rw [pm.mem_iff, fnd.mem, win_cond k n1]
      constructor
      · rintro ⟨a, l, mid, ⟨d1, d2, d3, d4, _⟩, c, e⟩
        exact ⟨a, mid, l, d4, d3, d2, d1, c, e⟩
      · rintro ⟨a, mid, l, d4, d3, d2, d1, c, e⟩
        exact ⟨a, l, mid, ⟨d1, d2, d3, d4, .inl d4⟩, c, e⟩
end
end LH

namespace LH
open PySem PySem.Spec PyProof.Rows L2 NdefX LamX LU
theorem RowsAt.set {H : Hp} {as : List Addr} {rows : List (List Nat)} {a : Addr} {row : List Nat} (h : RowsAt H as rows) (j : Nat) (ha : H a = some (.tup (vi row))) : RowsAt H (as.set j a) (rows.set j row) := by
  refine ⟨by rw [List.length_set, List.length_set]; exact h.1, fun i b x hb hx => ?_⟩
  rw [List.getElem?_set] at hb hx
  by_cases e : j = i
  · rw [if_pos e] at hb hx
    split at hb
    · split at hx
      · cases hb
        cases hx
        exact ha
      · cases hx
    · cases hb
  · rw [if_neg e] at hb hx
    exact h.2 i b x hb hx
section
variable {P : Program} {w : World} {K : PySem.W.Frag} {mg : Str → Option Value} {base : Heap}
/-! ### _law_chain -/
def sp_law_chain : Sp := fun vs H Q _ => ∃ (r : Addr) (z : Str), vs = [.ref r, .str z] ∧ RowAt H r ∧ IsLet z ∧
  ∀ H' p (M : Mach), Off r H H' → RowAt H' r → MachAt H' p M → M.Ok → M.z = z → M.rows.length ≤ 60 → Q (.ref p) H'
theorem ok_law_chain (T : TX K mg) : FnOk P w K mg base CX0 2 T.a_law_chain T.fd_law_chain ["purse", "letters"] sp_law_chain := by
  have G_law_next : FnOk P w K mg base CX0 1 T.a_law_next T.fd_law_next ["purse"] sp_law_next := ok_law_next T
  refine T.F_law_chain.ok sc_law_chain (fun vs H Q E h => ?_) (fun cdv A outer s H vs Q E hr h => ?_)
  · obtain ⟨r, z, rfl, _⟩ := h
    rfl
  · obtain ⟨r, z, rfl, hR, hz, q⟩ := h
    refine ⟨_, (pss_cons (ps_set (i := 2) sc_law_chain.nd rfl (Or.inr rfl) (pe_op op_add pe_int (pe_op op_mod (pe_call G_law_next (hr.mono (by decide)) (by rfl) T.g_law_next T.F_law_next.kp T.b_law_next .nil pass0 (pa_cons (pv 0) pa_nil)) pe_int)))
      (pss_cons (ps_set (i := 3) sc_law_chain.nd rfl (Or.inl rfl) (pe_lst pa_nil))
      (pss_cons (ps_for PassesOwn.never rfl (pi_range1 (by rfl) T.m_range (pa_cons (pv 2) pa_nil)) (pg_name (i := 4) sc_law_chain.nd rfl (Or.inr rfl))
        (pss_cons (ps_setLc (i := 5) (own := [("letter", 6)]) (g := gName 6) (tt := tYes) (by rfl) sc_law_chain.nd rfl rfl (sw_true rfl rfl rfl (by decide +kernel)) (pi_str (pv 1)) (blkOk_by (own := [("letter", 6)]) (N := N_law_chain) (by kernel_rfl)) (fun _ _ _ _ _ => (pg_name (i := 6) sc_law_chain.nd rfl (by first | exact Or.inl rfl | exact Or.inr rfl))) (fun _ _ _ _ _ => pts_nil) (fun _ _ _ _ _ => (pe_ix (ix_listK K rfl) (pe_lst (pa_cons pe_int (pa_cons (pe_op op_sub (pv 2) pe_int) (pa_cons (pe_op op_mod (pe_call G_law_next (hr.mono (by decide)) (by rfl) T.g_law_next T.F_law_next.kp T.b_law_next .nil pass0 (pa_cons (pv 0) pa_nil)) (pe_op op_add (pv 4) pe_int)) pa_nil)))) (pe_op op_mod (pe_call G_law_next (hr.mono (by decide)) (by rfl) T.g_law_next T.F_law_next.kp T.b_law_next .nil pass0 (pa_cons (pv 0) pa_nil)) pe_int) (fun _ _ => rfl))))
          (pss_cons (ps_asg (pe_callB (call_min2 rfl) (by rfl) T.m_min (by decide +kernel) (pa_cons (pe_op op_add (pv 4) pe_int) (pa_cons (pe_op op_sub (pv 2) pe_int) pa_nil))) (pg_sub (pv 5) (pe_op op_mod (pe_call G_law_next (hr.mono (by decide)) (by rfl) T.g_law_next T.F_law_next.kp T.b_law_next .nil pass0 (pa_cons (pv 0) pa_nil)) (pe_callB call_len_str (by rfl) T.m_len (by decide +kernel) (pa_cons (pv 1) pa_nil))) set_list))
          (pss_one (ps_expr (pe_bmK K rfl PySem.F.plainAttrs_list PySem.F.slot_list_append PySem.F.type_list_append mt_append (pv 3) (pa_cons (pe_callTy (call_tupleK K rfl) (by rfl) T.m_tuple (by decide +kernel) (pa_cons (pv 5) pa_nil)) pa_nil)))))))
      (pss_cons (ps_asg (pe_callTy (call_tupleK K rfl) (by rfl) T.m_tuple (by decide +kernel) (pa_cons (pe_lc (own := [("letter", 6)]) (g := gName 6) (tt := tYes) (by rfl) sc_law_chain.nd (pi_str (pv 1)) (blkOk_by (own := [("letter", 6)]) (N := N_law_chain) (by kernel_rfl)) (fun _ _ _ _ _ => (pg_name (i := 6) sc_law_chain.nd rfl (by first | exact Or.inl rfl | exact Or.inr rfl))) (fun _ _ _ _ _ => pts_nil) (fun _ _ _ _ _ => (pe_op op_sub (pv 2) pe_int))) pa_nil)) (pg_sub (pv 3) (pe_un un_neg pe_int) set_list))
      (pss_one (ps_ret (pe_tup (pa_cons (pv 1) (pa_cons (pe_callTy (call_tupleK K rfl) (by rfl) T.m_tuple (by decide +kernel) (pa_cons (pv 3) pa_nil)) (pa_cons (pe_tup (pa_cons (pe_op op_sub (pv 2) pe_int) pa_nil)) pa_nil)))))))))), ?_⟩
    have l1 := hz.one
    have l5 := hz.five
    -- many
    refine ⟨.ref r, rfl, r, rfl, hR, fun H1 g o1 R1 => ⟨g, 51, rfl, rfl, (by show (0 : Int) < 51; decide), 10, g % 51, rfl, rfl, ?_⟩⟩
    obtain ⟨m, hm, m10, m60⟩ : ∃ m : Nat, 10 + g % 51 = (m : Int) ∧ 10 ≤ m ∧ m ≤ 60 := ⟨(10 + g % 51).toNat, by omega, by omega, by omega⟩
    show gName 2 (.int (10 + g % 51)) _ _ _
    rw [hm]
    -- table
    refine ⟨by show 0 ≤ sizeLine; decide, fun D nD => ?_⟩
    have fD : H D = none := o1.free (R1.ne nD) nD
    have rD : r ≠ D := R1.ne nD
    refine ⟨.int (m : Int), rfl, (m : Int), rfl, by omega, by omega, ?_⟩
    refine for_range (lo := 0) (n := (m : Int).toNat) (fun i σ H' => (∃ as rows, RowAt H' r ∧ Off r H H' ∧ H' D = some (.lst (vr as)) ∧ RowsAt H' as rows ∧ rows.length = i ∧ ∀ row ∈ rows, row.length = z.length ∧ ∀ t ∈ row, t < m) ∧ ∃ y4 y5, σ = [some (.ref r), some (.str z), some (.int (m : Int)), some (.ref D), y4, y5, none]) ⟨⟨[], [], R1.new nD, o1.mut fD, upd_same, ⟨rfl, fun i a row x => by simp at x⟩, rfl, fun _ h => nomatch h⟩, none, none, rfl⟩ (fun i σ H2 hi hW => ?_) (fun σ H2 hW => ?_)
    · obtain ⟨⟨as, rows, R2, o2, e2, ra, rl, ro⟩, y4, y5, rfl⟩ := hW
      have him : i < m := by omega
      -- row
      refine ⟨.str z, rfl, z, rfl, fun D2 n2 => ?_⟩
      have f2 : H D2 = none := o2.free (R2.ne n2) n2
      have r2 : r ≠ D2 := R2.ne n2
      have d2 : D ≠ D2 := ne_of_none e2 n2
      refine lc_it walk_str (fun j H' => ∃ row, RowAt H' r ∧ Off r H H' ∧ H' D = some (.lst (vr as)) ∧ RowsAt H' as rows ∧ H' D2 = some (.lst (vi row)) ∧ row.length = j ∧ ∀ t ∈ row, t < m) ⟨[], R2.new n2, o2.mut f2, by rw [upd_ne d2]; exact e2, ra.mono (Tups.new n2), upd_same, rfl, fun _ h => nomatch h⟩ (fun _ _ _ _ => trivial) (fun j x H3 H3' hj hW hY => ?_) (fun H3 hW => ?_)
      · obtain ⟨row, R3, o3, e3, ra3, w3, l3, t3⟩ := hW
        obtain ⟨rfl, c, hc, rfl⟩ := hY
        refine ⟨rfl, lcyes ?_⟩
        refine ⟨.int (m : Int), rfl, (m : Int), 1, rfl, rfl, .ref r, rfl, r, rfl, R3, fun H4 g o4 R4 => ⟨.int (0 + (i : Int)), rfl, 0 + (i : Int), 1, rfl, rfl, g, 0 + (i : Int) + 1, rfl, rfl, by omega, by show 3 ≤ sizeLine; decide, fun mp nmp => ?_⟩⟩
        have a0 := Int.emod_nonneg g (show 0 + (i : Int) + 1 ≠ 0 by omega)
        have a1 := Int.emod_lt_of_pos g (show 0 < 0 + (i : Int) + 1 by omega)
        obtain ⟨h, hh⟩ : ∃ h : Nat, g % (0 + (i : Int) + 1) = (h : Int) := ⟨(g % (0 + (i : Int) + 1)).toNat, by omega⟩
        have em : (upd H4 mp (.lst [V.int 0, V.int ((m : Int) - 1), V.int (g % (0 + (i : Int) + 1))])) mp = some (.lst (vi [0, m - 1, h])) := by
          rw [upd_same, hh, show (m : Int) - 1 = ((m - 1 : Nat) : Int) by omega]
          rfl
        have R5 := R4.new (o := .lst [V.int 0, V.int ((m : Int) - 1), V.int (g % (0 + (i : Int) + 1))]) nmp
        have sM := same_new (o := .lst [V.int 0, V.int ((m : Int) - 1), V.int (g % (0 + (i : Int) + 1))]) nmp
        have w5 := sM _ _ (o4 _ _ r2.symm w3)
        have e5 := sM _ _ (o4 _ _ rD.symm e3)
        have o35 := o3.trans (o4.trans (Off.of sM))
        have ra5 := (ra3.mono (Tups.off R3 o4)).mono (Tups.same sM)
        have rm : r ≠ mp := R4.ne nmp
        refine ⟨.ref r, rfl, r, rfl, R5, fun H6 g2 o6 R6 => ?_⟩
        obtain ⟨kk, hk, hk3⟩ : ∃ k : Nat, g2 % 3 = (k : Int) ∧ k < 3 := ⟨(g2 % 3).toNat, by omega, by omega⟩
        obtain ⟨t, ht, htm⟩ : ∃ t : Nat, (vi [0, m - 1, h])[kk]? = some (.int (t : Int)) ∧ t < m := by
          match kk, hk3 with
          | 0, _ => exact ⟨0, rfl, by omega⟩
          | 1, _ => exact ⟨m - 1, rfl, by omega⟩
          | 2, _ => exact ⟨h, rfl, by omega⟩
          | k + 3, h => omega
        have w6 := o6 _ _ r2.symm w5
        refine ⟨g2, 3, rfl, rfl, (by show (0 : Int) < 3; decide), mp, _, _, .int (t : Int), rfl, rfl, .inl (.inl (o6 _ _ rm.symm em)), by rw [hk]; exact atI_nat ht, vi row, w6, ?_, row ++ [t], R6.upd r2, (o35.trans o6).mut f2, ?_, (ra5.mono (Tups.off R5 o6)).mono (Tups.lst w6), ?_, ?_, mem_snoc t3 htm⟩
        · rw [List.length_map, l3]
          refine small1000 ?_
          have : j < z.length := hj
          omega
        · rw [upd_ne d2]
          exact o6 _ _ rD.symm e5
        · rw [upd_same, vi_snoc]
        · rw [List.length_append, l3]
          rfl
      · obtain ⟨row, R3, o3, e3, ra3, w3, l3, t3⟩ := hW
        refine ⟨.int (0 + (i : Int)), rfl, 0 + (i : Int), 1, rfl, rfl, .int (m : Int), rfl, (m : Int), 1, rfl, rfl, _, _, rfl, .ref D2, rfl, .ref r, rfl, r, rfl, R3, fun H4 g o4 R4 => ⟨.str z, rfl, z, rfl, (show z.length ≤ sizeLine from Nat.le_trans l5 (by decide)), ?_⟩⟩
        have l3b : row.length = z.length := l3
        have hl0 : (0 : Int) < (z.length : Int) := by omega
        have a0 := Int.emod_nonneg g (show (z.length : Int) ≠ 0 by omega)
        have a1 := Int.emod_lt_of_pos g hl0
        obtain ⟨h, hh, hlt⟩ : ∃ h : Nat, g % (z.length : Int) = (h : Int) ∧ h < row.length := ⟨(g % (z.length : Int)).toNat, by omega, by omega⟩
        obtain ⟨t, ht, htm⟩ : ∃ t : Nat, (if (m : Int) - 1 < 0 + (i : Int) + 1 then (m : Int) - 1 else 0 + (i : Int) + 1) = (t : Int) ∧ t < m := ⟨min (i + 1) (m - 1), by split <;> omega, by omega⟩
        have w4 := o4 _ _ r2.symm w3
        have e4 := o4 _ _ rD.symm e3
        have ra4 := ra3.mono (Tups.off R3 o4)
        refine ⟨g, (z.length : Int), rfl, rfl, hl0, D2, vi row, g % (z.length : Int), h, rfl, rfl, w4, by rw [hh, List.length_map]; exact ixN_nat hlt, ?_⟩
        rw [ht, vi_set]
        have R5 : RowAt (upd H4 D2 (.lst (vi (row.set h t)))) r := R4.upd r2
        have w5 : (upd H4 D2 (.lst (vi (row.set h t)))) D2 = some (.lst (vi (row.set h t))) := upd_same
        have e5 : (upd H4 D2 (.lst (vi (row.set h t)))) D = some (.lst (vr as)) := by rw [upd_ne d2]; exact e4
        have ra5 : RowsAt (upd H4 D2 (.lst (vi (row.set h t)))) as rows := ra4.mono (Tups.lst w4)
        have o5 : Off r H (upd H4 D2 (.lst (vi (row.set h t)))) := (o3.trans o4).mut f2
        generalize upd H4 D2 (.lst (vi (row.set h t))) = H5 at R5 w5 e5 ra5 o5
        refine ⟨.ref D, rfl, .inl ⟨rfl, _, .inl (.inl e5)⟩, .ref D2, rfl, D2, _, rfl, .inl ⟨.inl (.inl w5), fun p4 n4 => ?_⟩⟩
        have f4 : H p4 = none := o5.free (R5.ne n4) n4
        have d4 : D ≠ p4 := ne_of_none e5 n4
        have ha : (upd H5 p4 (.tup (vi (row.set h t)))) p4 = some (.tup (vi (row.set h t))) := upd_same
        have e6 : (upd H5 p4 (.tup (vi (row.set h t)))) D = some (.lst (vr as)) := by rw [upd_ne d4]; exact e5
        refine ⟨D, _, _, rfl, rfl, e6, ?_, ⟨as ++ [p4], rows ++ [row.set h t], (R5.new n4).upd rD, (o5.mut f4).mut fD, ?_, ?_, ?_, mem_snoc ro ⟨by rw [List.length_set]; exact l3, fun u hu => ?_⟩⟩, _, _, rfl⟩
        · rw [List.length_map, ra5.1, rl]
          exact small1000 (by omega)
        · rw [upd_same, vr_snoc]
        · exact ((ra5.mono (Tups.new n4)).snoc ha).mono (Tups.lst (xs := vr as) e6)
        · rw [List.length_append, rl]
          rfl
        · rcases List.mem_or_eq_of_mem_set hu with y | y
          · exact t3 u y
          · rw [y]
            exact htm
    · obtain ⟨⟨as, rows, R2, o2, e2, ra, rl, ro⟩, y4, y5, rfl⟩ := hW
      have hrl : rows.length = m := by
        rw [rl]
        omega
      -- the last one
      refine ⟨.str z, rfl, z, rfl, fun D2 n2 => ?_⟩
      have f2 : H D2 = none := o2.free (R2.ne n2) n2
      have r2 : r ≠ D2 := R2.ne n2
      have d2 : D ≠ D2 := ne_of_none e2 n2
      refine lc_it walk_str (fun j H' => ∃ row, RowAt H' r ∧ Off r H H' ∧ H' D = some (.lst (vr as)) ∧ RowsAt H' as rows ∧ H' D2 = some (.lst (vi row)) ∧ row.length = j ∧ ∀ t ∈ row, t < m) ⟨[], R2.new n2, o2.mut f2, by rw [upd_ne d2]; exact e2, ra.mono (Tups.new n2), upd_same, rfl, fun _ h => nomatch h⟩ (fun _ _ _ _ => trivial) (fun j x H3 H3' hj hW hY => ?_) (fun H3 hW => ?_)
      · obtain ⟨row, R3, o3, e3, ra3, w3, l3, t3⟩ := hW
        obtain ⟨rfl, c, hc, rfl⟩ := hY
        refine ⟨rfl, lcyes ?_⟩
        refine ⟨.int (m : Int), rfl, (m : Int), 1, rfl, rfl, vi row, w3, ?_, row ++ [m - 1], R3.upd r2, o3.mut f2, ?_, ra3.mono (Tups.lst w3), ?_, ?_, mem_snoc t3 (by omega)⟩
        · rw [List.length_map, l3]
          refine small1000 ?_
          have : j < z.length := hj
          omega
        · rw [upd_ne d2]
          exact e3
        · rw [upd_same]
          show some (HO.lst (vi row ++ [V.int ((m : Int) - 1)])) = _
          rw [show (m : Int) - 1 = ((m - 1 : Nat) : Int) by omega, vi_snoc]
        · rw [List.length_append, l3]
          rfl
      · obtain ⟨row, R3, o3, e3, ra3, w3, l3, t3⟩ := hW
        refine ⟨D2, _, rfl, .inl ⟨.inl (.inl w3), fun p4 n4 => ?_⟩⟩
        have f4 : H p4 = none := o3.free (R3.ne n4) n4
        have d4 : D ≠ p4 := ne_of_none e3 n4
        have ha : (upd H3 p4 (.tup (vi row))) p4 = some (.tup (vi row)) := upd_same
        have e4 : (upd H3 p4 (.tup (vi row))) D = some (.lst (vr as)) := by rw [upd_ne d4]; exact e3
        refine ⟨.ref D, rfl, 1, rfl, ?_⟩
        have hix : ixN (vr as).length (-1) = some (m - 1) := by
          rw [List.length_map, ra3.1, hrl]
          unfold ixN
          simp
          omega
        refine ⟨D, vr as, -1, m - 1, rfl, rfl, e4, hix, ?_⟩
        rw [vr_set]
        have tL : Tups (upd H3 p4 (.tup (vi row))) (upd (upd H3 p4 (.tup (vi row))) D (.lst (vr (as.set (m - 1) p4)))) := Tups.lst e4
        have R5 : RowAt (upd (upd H3 p4 (.tup (vi row))) D (.lst (vr (as.set (m - 1) p4)))) r := (R3.new n4).upd rD
        have o5 : Off r H (upd (upd H3 p4 (.tup (vi row))) D (.lst (vr (as.set (m - 1) p4)))) := (o3.mut f4).mut fD
        have e5 : (upd (upd H3 p4 (.tup (vi row))) D (.lst (vr (as.set (m - 1) p4)))) D = some (.lst (vr (as.set (m - 1) p4))) := upd_same
        have ra5 := ((ra3.mono (Tups.new n4)).set (m - 1) ha).mono tL
        generalize upd (upd H3 p4 (.tup (vi row))) D (.lst (vr (as.set (m - 1) p4))) = H5 at R5 o5 e5 ra5
        refine ⟨.str z, rfl, .ref D, rfl, D, _, rfl, .inl ⟨.inl (.inl e5), fun p5 n5 => ?_⟩⟩
        have f5 : H p5 = none := o5.free (R5.ne n5) n5
        have R6 := R5.new (o := .tup (vr (as.set (m - 1) p4))) n5
        refine ⟨.int (m : Int), rfl, (m : Int), 2, rfl, rfl, by show 1 ≤ sizeLine; decide, fun p6 n6 => ?_⟩
        have f6 : H p6 = none := (o5.mut f5).free (R6.ne n6) n6
        have R7 := R6.new (o := .tup [.int ((m : Int) - 2)]) n6
        refine ⟨by show 3 ≤ sizeLine; decide, fun p7 n7 => ?_⟩
        have f7 : H p7 = none := ((o5.mut f5).mut f6).free (R7.ne n7) n7
        have t67 : Tups (upd H5 p5 (.tup (vr (as.set (m - 1) p4)))) (upd (upd (upd H5 p5 (.tup (vr (as.set (m - 1) p4)))) p6 (.tup [.int ((m : Int) - 2)])) p7 (.tup [.str z, .ref p5, .ref p6])) := (Tups.new n6).trans (Tups.new n7)
        have e6 : (upd (upd H5 p5 (.tup (vr (as.set (m - 1) p4)))) p6 (.tup [.int ((m : Int) - 2)])) p6 = some (.tup (vi [m - 2])) := by
          rw [upd_same, show (m : Int) - 2 = ((m - 2 : Nat) : Int) by omega]
          rfl
        have hsl : (rows.set (m - 1) row).length = m := by rw [List.length_set]; exact hrl
        refine q _ p7 ⟨z, rows.set (m - 1) row, [m - 2]⟩ (((o5.mut f5).mut f6).mut f7) (R7.new n7) ⟨p5, p6, as.set (m - 1) p4, upd_same, t67 _ _ upd_same, ra5.mono ((Tups.new n5).trans t67), (Tups.new n7) _ _ e6⟩ ⟨hz, by show 1 ≤ (rows.set (m - 1) row).length; omega, ?_, ?_, by simp⟩ rfl (by show (rows.set (m - 1) row).length ≤ 60; omega)
        · intro row' hrow
          have : row'.length = z.length ∧ ∀ t ∈ row', t < m := by
            rcases List.mem_or_eq_of_mem_set hrow with y | y
            · exact ro _ y
            · rw [y]
              exact ⟨l3, t3⟩
          refine ⟨this.1, fun t ht => ?_⟩
          have := this.2 t ht
          show t < (rows.set (m - 1) row).length
          omega
        · intro e he
          rw [List.mem_singleton.mp he]
          show m - 2 < (rows.set (m - 1) row).length
          omega
end
end LH

namespace LH
open PySem PySem.Spec PyProof.Rows L2 NdefX LamX LU
/-! ### signs of a framed word -/
theorem frm_at {n : Nat} {cs : List Nat} {i c : Nat} (h : (framed n cs)[i]? = some c) : (c = 94 ∧ i < n - 1) ∨ (c ∈ cs ∧ n - 1 ≤ i ∧ i < n - 1 + cs.length) ∨ (c = 36 ∧ n - 1 + cs.length ≤ i) := by
  unfold framed at h
  by_cases h1 : i < n - 1
  · rw [List.append_assoc, List.getElem?_append_left (by rw [List.length_replicate]; exact h1), List.getElem?_replicate, if_pos h1] at h
    exact .inl ⟨(Option.some.inj h).symm, h1⟩
  · rw [List.append_assoc, List.getElem?_append_right (by rw [List.length_replicate]; omega), List.length_replicate] at h
    by_cases h2 : i - (n - 1) < cs.length
    · rw [List.getElem?_append_left h2] at h
      exact .inr (.inl ⟨List.mem_of_getElem? h, by omega, by omega⟩)
    · rw [List.getElem?_append_right (by omega)] at h
      have := List.mem_of_getElem? h
      exact .inr (.inr ⟨(List.mem_replicate.mp this).2, by omega⟩)
theorem win_sign {n k j : Nat} {t : List Nat} (hj : j < n) : (win n t k)[j]? = t[k + j]? := by
  unfold win
  rw [List.getElem?_take, if_pos hj, List.getElem?_drop]
theorem frm_some {n : Nat} {cs : List Nat} {i : Nat} (h : i < cs.length + 2 * (n - 1)) : ∃ c, (framed n cs)[i]? = some c := by
  have hl : i < (framed n cs).length := by rw [framed_len]; exact h
  exact ⟨_, List.getElem?_eq_getElem hl⟩
theorem win_strOk {z : Str} (hz : IsLet z) {n k : Nat} {cs : List Nat} (h : AllIn z cs) : PyData.strOk (txt (win n (framed n cs) k)) = true := by
  unfold PyData.strOk
  rw [Array.all_eq_true']
  intro c hc
  have hc : c ∈ win n (framed n cs) k := Array.mem_toList_iff.mpr hc
  unfold win at hc
  have hc := List.mem_of_mem_drop (List.mem_of_mem_take hc)
  obtain ⟨i, hi⟩ := List.mem_iff_getElem?.mp hc
  rcases frm_at hi with ⟨q, _⟩ | ⟨q, _⟩ | ⟨q, _⟩
  · rw [q]; decide
  · have := (hz.small c (h c q)).2
    simp
    omega
  · rw [q]; decide
section
variable {M : Mach} {n : Nat} {ys : List Str}
theorem IsW.strOk (k : M.Ok) (h : IsW M n ys) : ∀ x ∈ ys, PyData.strOk x = true := fun x hx => by
  obtain ⟨cs, hin, _, j, _, rfl⟩ := (h.mem x).mp hx
  exact win_strOk k.let_ hin
end
section
variable {X : Cx} (K : PySem.W.Frag) (hK : X.K = K)
include hK
theorem op_eqDK (hu : X.A.units + 64 < cLine) : OpR X (compareOp .Eq) (rEqD K) := by subst hK; exact op_eqD hu
theorem op_neDK (hu : X.A.units + 64 < cLine) : OpR X (compareOp .NotEq) (rNeD K) := by subst hK; exact op_neD hu
end
theorem seqN {K : PySem.W.Frag} {r a : Addr} {H H' : Hp} {xs : List V} (e : OffN r H H') (hr : H r = none) (h : SqL K H a xs) : SqL K H' a xs := by
  rcases h with (h | ⟨o, h⟩) | h
  · exact .inl (.inl (e _ _ (ne_of_none h hr) h (by intro ps z; cases z)))
  · exact .inl (.inr ⟨o, e _ _ (ne_of_none h hr) h (by intro ps z; cases z)⟩)
  · exact .inr h
def menu6 : List Str := ["ab", "nt", "abc", "z", "bdq", "abcde"]
theorem menu6_let : ∀ z ∈ menu6, 1 ≤ z.length ∧ z.length ≤ 5 ∧ z.cps.toList.Pairwise (· < ·) ∧ (∀ c ∈ z.cps.toList, 97 ≤ c ∧ c ≤ 122) := by decide +kernel
theorem tabs_rowP {T : List NTab} {H H' : Hp} {r : Addr} (t : TabsN T H) (R : RowAt H r) (o : Off r H H') : TabsN T H' := by
  obtain ⟨ns, h, _⟩ := R
  exact tabs_off t h o
theorem IsLet.take3 {z : Str} (h : IsLet z) : IsLet (cutS z none (some 3)) := by
  have h1 := h.one
  have h5 := h.five
  have e : (cutS z none (some 3)).cps.toList = z.cps.toList.take 3 := by
    have e3 : HT.sIx z.length z.length (some 3) = min 3 z.length := by
      unfold HT.sIx
      simp
    unfold cutS
    rw [e3]
    show (z.cps.toList.drop 0).take (min 3 z.length - 0) = _
    rw [List.drop_zero, Nat.sub_zero, List.take_eq_take_iff, Array.length_toList]
    show min (min 3 z.length) z.length = min 3 z.length
    omega
  have el : (cutS z none (some 3)).length = min 3 z.length := by
    show (cutS z none (some 3)).cps.size = _
    rw [← Array.length_toList, e, List.length_take, Array.length_toList]
    rfl
  refine ⟨by omega, by omega, ?_, fun c hc => ?_⟩
  · rw [e]
    exact h.rise.sublist (List.take_sublist _ _)
  · rw [e] at hc
    exact h.small c (List.mem_of_mem_take hc)
/-- what the law has laid by: pairs of equal lists -/
def HeldAt (H : Hp) (hp : Addr) (n : Nat) : Prop := ∃ is : List Addr, H hp = some (.lst (vr is)) ∧ is.length ≤ n ∧ ∀ i ∈ is, ∃ (f d : Addr) (ys : List Str), H i = some (.tup [.ref f, .ref d]) ∧ H f = some (.lst (vS ys)) ∧ H d = some (.lst (vS ys)) ∧ f ≠ hp ∧ d ≠ hp ∧ ∀ x ∈ ys, PyData.strOk x = true
theorem HeldAt.offN {r hp : Addr} {H H' : Hp} {n : Nat} (h : HeldAt H hp n) (nr : H r = none) (o : OffN r H H') : HeldAt H' hp n := by
  obtain ⟨is, e, l, a⟩ := h
  refine ⟨is, o.lst (ne_of_none e nr) e, l, fun i hi => ?_⟩
  obtain ⟨f, d, ys, h1, h2, h3, h4⟩ := a i hi
  exact ⟨f, d, ys, o.tup (ne_of_none h1 nr) h1, o.lst (ne_of_none h2 nr) h2, o.lst (ne_of_none h3 nr) h3, h4⟩
theorem HeldAt.ext {hp : Addr} {H H' : Hp} {n : Nat} (h : HeldAt H hp n) (x : ExtN H H') : HeldAt H' hp n := by
  obtain ⟨is, e, l, a⟩ := h
  refine ⟨is, lstN x e, l, fun i hi => ?_⟩
  obtain ⟨f, d, ys, h1, h2, h3, h4⟩ := a i hi
  exact ⟨f, d, ys, x _ _ h1 (by intro ps z; cases z), lstN x h2, lstN x h3, h4⟩
theorem HeldAt.put {hp p f d : Addr} {H : Hp} {is : List Addr} {ys : List Str} {n : Nat} (e : H hp = some (.lst (vr is))) (h : HeldAt H hp n) (h1 : H p = some (.tup [.ref f, .ref d])) (h2 : H f = some (.lst (vS ys))) (h3 : H d = some (.lst (vS ys))) (nf : f ≠ hp) (nd : d ≠ hp) (ok : ∀ x ∈ ys, PyData.strOk x = true) : HeldAt (upd H hp (.lst (vr (is ++ [p])))) hp (n + 1) := by
  obtain ⟨is', e', l, a⟩ := h
  rw [e] at e'
  have : is = is' := by
    have := (HO.lst.inj (Option.some.inj e'))
    exact (List.map_inj_right fun a b h => V.ref.inj h).mp this
  subst this
  have tup : ∀ b xs, H b = some (.tup xs) → b ≠ hp := fun b xs h z => by
    rw [z, e] at h
    cases h
  refine ⟨is ++ [p], upd_same, by rw [List.length_append]; show is.length + 1 ≤ n + 1; omega, fun i hi => ?_⟩
  rcases List.mem_append.mp hi with hi | hi
  · obtain ⟨f, d, ys, g1, g2, g3, g4, g5, g6⟩ := a i hi
    exact ⟨f, d, ys, by rw [upd_ne (tup _ _ g1)]; exact g1, by rw [upd_ne g4]; exact g2, by rw [upd_ne g5]; exact g3, g4, g5, g6⟩
  · rw [List.mem_singleton.mp hi]
    exact ⟨f, d, ys, by rw [upd_ne (tup _ _ h1)]; exact h1, by rw [upd_ne nf]; exact h2, by rw [upd_ne nd]; exact h3, nf, nd, ok⟩
theorem tupsO {hp : Addr} {H H' : Hp} {xs : List V} (o : OffN hp H H') (e : H hp = some (.lst xs)) : Tups H H' := fun c ys h => o.tup (fun z => by rw [z, e] at h; cases h) h
/-- what a list that stood nowhere is changed to -/
theorem extN_put {H H' : Hp} {p : Addr} {o : HO} (x : ExtN H H') (np : ∀ b o, H b = some o → (∀ ps, o ≠ .tbl ps) → b ≠ p) : ExtN H (upd H' p o) := fun b u h t => by
  rw [upd_ne (np b u h t)]
  exact x b u h t
theorem offN_new {hp r : Addr} {H G G' : Hp} (o : OffN hp H G) (nr : G r = none) (x : OffN r G G') : OffN hp H G' := fun b u n h t => by
  have h2 := o b u n h t
  exact x b u (ne_of_none h2 nr) h2 t
section
variable {P : Program} {w : World} {K : PySem.W.Frag} {mg : Str → Option Value} {base : Heap}
def sp_law (K : PySem.W.Frag) (tabs : List NTab) : Sp := fun vs H Q _ => ∃ (a : Addr) (ns : List Int), vs = [.ref a] ∧ SqL K H a (ns.map V.int) ∧ ns.length ≤ 63 ∧ TabsN tabs H ∧ ∀ H', Q (.bl true) H'
theorem ok_law {f : Addr} {fd : FuncData} {tabs : List NTab} (F : Fun K "law" "law" s_law f fd) (T : TX K mg) (G_ways_of : FnOk P w K mg base CX0 7 T.a_ways_of T.fd_ways_of ["machine"] (sp_ways_of tabs)) (G_windows_of_ways : FnOk P w K mg base CX0 6 T.a_windows_of_ways T.fd_windows_of_ways ["letters", "firsts", "ways", "ended", "size"] (sp_windows_of_ways tabs)) : FnOk P w K mg base CX0 10 f fd ["script"] (sp_law K tabs) := by
  have G_windows_of := ok_windows_of T G_ways_of G_windows_of_ways
  have G_law_purse : FnOk P w K mg base CX0 2 T.a_law_purse T.fd_law_purse ["script", "at", "step", "many"] (sp_law_purse K) := ok_law_purse T
  have G_law_next : FnOk P w K mg base CX0 1 T.a_law_next T.fd_law_next ["purse"] sp_law_next := ok_law_next T
  have G_law_turned : FnOk P w K mg base CX0 2 T.a_law_turned T.fd_law_turned ["purse", "letters"] sp_law_turned := ok_law_turned T
  have G_law_machine : FnOk P w K mg base CX0 2 T.a_law_machine T.fd_law_machine ["purse", "letters", "most"] sp_law_machine := ok_law_machine T
  have G_law_chain : FnOk P w K mg base CX0 2 T.a_law_chain T.fd_law_chain ["purse", "letters"] sp_law_chain := ok_law_chain T
  have G_law_due : FnOk P w K mg base CX0 3 T.a_law_due T.fd_law_due ["machine", "size"] sp_law_due := ok_law_due T
  refine F.ok sc_law (fun vs H Q E h => ?_) (fun cdv A outer s H vs Q E hr h => ?_)
  · obtain ⟨a, ns, rfl, _⟩ := h
    rfl
  · obtain ⟨a, ns, rfl, hS, hlen, tb, q⟩ := h
    refine ⟨_, (pss_cons (ps_set (i := 1) sc_law.nd rfl (Or.inl rfl) (pe_lst pa_nil))
      (pss_cons (ps_for PassesOwn.never rfl (pi_range1 (by rfl) T.m_range (pa_cons pe_int pa_nil)) (pg_name (i := 2) sc_law.nd rfl (Or.inl rfl))
        (pss_cons (ps_set (i := 3) sc_law.nd rfl (Or.inl rfl) (pe_call G_law_purse (hr.mono (by decide)) (by rfl) T.g_law_purse T.F_law_purse.kp T.b_law_purse .nil pass0 (pa_cons (pv 0) (pa_cons (pv 2) (pa_cons pe_int (pa_cons pe_int pa_nil))))))
          (pss_cons (ps_set (i := 4) sc_law.nd rfl (Or.inl rfl) (pe_call G_law_turned (hr.mono (by decide)) (by rfl) T.g_law_turned T.F_law_turned.kp T.b_law_turned .nil pass0 (pa_cons (pv 3) (pa_cons (pe_ix (ix_listK K rfl) (pe_lst (pa_cons pe_str (pa_cons pe_str (pa_cons pe_str (pa_cons pe_str (pa_cons pe_str (pa_cons pe_str pa_nil))))))) (pe_op op_mod (pe_call G_law_next (hr.mono (by decide)) (by rfl) T.g_law_next T.F_law_next.kp T.b_law_next .nil pass0 (pa_cons (pv 3) pa_nil)) pe_int) (fun _ _ => rfl)) pa_nil))))
          (pss_cons (ps_set (i := 5) sc_law.nd rfl (Or.inl rfl) (pe_call G_law_machine (hr.mono (by decide)) (by rfl) T.g_law_machine T.F_law_machine.kp T.b_law_machine .nil pass0 (pa_cons (pv 3) (pa_cons (pv 4) (pa_cons pe_int pa_nil)))))
          (C8.pss_cut (ps_if (pt_cmpR op_eq (pe_op op_mod (pe_call G_law_next (hr.mono (by decide)) (by rfl) T.g_law_next T.F_law_next.kp T.b_law_next .nil pass0 (pa_cons (pv 3) pa_nil)) pe_int) pe_int (nomark _))
            (pss_one (ps_set (i := 5) sc_law.nd rfl (Or.inl rfl) (pe_call G_law_chain (hr.mono (by decide)) (by rfl) T.g_law_chain T.F_law_chain.kp T.b_law_chain .nil pass0 (pa_cons (pe_call G_law_purse (hr.mono (by decide)) (by rfl) T.g_law_purse T.F_law_purse.kp T.b_law_purse .nil pass0 (pa_cons (pv 0) (pa_cons pe_int (pa_cons pe_int (pa_cons pe_int pa_nil))))) (pa_cons (pe_slice sl_str (pv 4) po_none (po_some pe_int)) pa_nil)))))
            pss_nil)
          (pss_one (ps_for PassesOwn.never rfl (pi_tupK K rfl (pe_tup (pa_cons pe_int (pa_cons pe_int (pa_cons pe_int pa_nil))))) (pg_name (i := 6) sc_law.nd rfl (Or.inl rfl))
            (pss_cons (ps_set (i := 7) sc_law.nd rfl (Or.inl rfl) (pe_call G_law_due (hr.mono (by decide)) (by rfl) T.g_law_due T.F_law_due.kp T.b_law_due .nil pass0 (pa_cons (pv 5) (pa_cons (pv 6) pa_nil))))
              (pss_cons (ps_set (i := 8) sc_law.nd rfl (Or.inl rfl) (pe_call G_windows_of (hr.mono (by decide)) (by rfl) T.g_windows_of T.F_windows_of.kp T.b_windows_of .nil pass0 (pa_cons (pv 5) (pa_cons (pv 6) pa_nil))))
              (pss_cons (ps_if (PW.pt (pw_or (pt_not (pt_val (pe_callB (call_isiK K rfl) (by rfl) T.m_isinstance (by decide +kernel) (pa_cons (pv 8) (pa_cons (pe_bltn (v := .ty "list") (by rfl) T.m_list (by decide +kernel) rfl) pa_nil))))) (pw_or1 (pt_cmpR (op_neDK K rfl hr.units) (pv 8) (pv 7) (nomark _)))))
                (pss_one (ps_ret pe_bl))
                pss_nil)
              (pss_cons (ps_expr (pe_bmK K rfl PySem.F.plainAttrs_list PySem.F.slot_list_append PySem.F.type_list_append mt_append (pv 1) (pa_cons (pe_tup (pa_cons (pv 8) (pa_cons (pe_callTy (call_listK K rfl) (by rfl) T.m_list (by decide +kernel) (pa_cons (pv 7) pa_nil)) pa_nil))) pa_nil)))
              (pss_cons (ps_set (i := 9) sc_law.nd rfl (Or.inl rfl) (pe_call G_windows_of (hr.mono (by decide)) (by rfl) T.g_windows_of T.F_windows_of.kp T.b_windows_of .nil pass0 (pa_cons (pv 5) (pa_cons (pv 6) pa_nil))))
              (pss_cons (ps_expr (pe_bmK K rfl PySem.F.plainAttrs_list PySem.F.slot_list_append PySem.F.type_list_append mt_append (pv 9) (pa_cons pe_str pa_nil)))
              (pss_one (ps_if (pt_cmpR (op_neDK K rfl hr.units) (pe_call G_windows_of (hr.mono (by decide)) (by rfl) T.g_windows_of T.F_windows_of.kp T.b_windows_of .nil pass0 (pa_cons (pv 5) (pa_cons (pv 6) pa_nil))) (pv 7) (nomark _))
                (pss_one (ps_ret pe_bl))
                pss_nil)))))))))))))))
      (pss_one (ps_ret (pe_cmpR (op_eqDK K rfl hr.units) (pe_lc (own := [("one", 10)]) (g := gName 10) (by rfl) sc_law.nd (pi_listK K rfl (pv 1)) (blkOk_by (own := [("one", 10)]) (N := N_law) (by kernel_rfl)) (fun _ _ _ _ _ => (pg_name (i := 10) sc_law.nd rfl (by first | exact Or.inl rfl | exact Or.inr rfl))) (fun _ _ _ _ _ => (pts_one (pt_cmpR (op_neDK K rfl hr.units) (pe_ix (ix_tupK K rfl) (pv 10) pe_int (fun _ _ => rfl)) (pe_ix (ix_tupK K rfl) (pv 10) pe_int (fun _ _ => rfl)) (nomark _)))) (fun _ _ _ _ _ => (pv 10))) (pe_lst pa_nil) (nomark _)))))), ?_⟩
    have sl : ∀ m, m ≤ 1000000 → m ≤ sizeLine := fun m hm => Nat.le_trans hm (by decide)
    have sl' : ∀ m, m ≤ 1000000 → m < sizeLine := fun m hm => Nat.lt_of_le_of_lt hm (by decide)
    -- held
    refine ⟨by show 0 ≤ sizeLine; decide, fun hp nhp => ?_⟩
    have s0 := same_new (o := .lst []) nhp
    refine ⟨3, rfl, by decide, by decide, ?_⟩
    refine for_range (lo := 0) (n := 3) (fun i σ G => OffN hp H G ∧ TabsN tabs G ∧ HeldAt G hp (3 * i) ∧ ∃ y2 y3 y4 y5 y6 y7 y8 y9, σ = [some (.ref a), some (.ref hp), y2, y3, y4, y5, y6, y7, y8, y9, none]) ⟨OffN.same s0, tb.ext s0, ⟨[], upd_same, Nat.le_refl _, fun _ h => nomatch h⟩, none, none, none, none, none, none, none, none, rfl⟩ (fun i σ G hi hW => ?_) (fun σ G hW => ?_)
    · obtain ⟨oG, tbG, hG, y2, y3, y4, y5, y6, y7, y8, y9, rfl⟩ := hW
      have hSG := seqN oG nhp hS
      refine ⟨.ref a, rfl, .int (0 + (i : Int)), rfl, a, ns, 0 + (i : Int), 3, 60, rfl, hSG, hlen, by decide, by decide, by decide, fun H2 r s2 nr R2 => ?_⟩
      refine ⟨.ref r, rfl, by show 6 ≤ sizeLine; decide, fun mp nmp => ?_⟩
      have R3 := R2.new (o := .lst (vS menu6)) nmp
      refine ⟨.ref r, rfl, r, rfl, R3, fun H4 g o4 R4 => ?_⟩
      have em : H4 mp = some (.lst (vS menu6)) := o4 _ _ (R2.ne nmp).symm upd_same
      obtain ⟨k, hk, hk6⟩ : ∃ k : Nat, g % 6 = (k : Int) ∧ k < menu6.length := ⟨(g % 6).toNat, by omega, by show _ < 6; omega⟩
      have hz0 := menu6_let _ (List.getElem_mem hk6)
      have ez : (vS menu6)[k]? = some (.str menu6[k]) := by rw [List.getElem?_map, List.getElem?_eq_getElem hk6]; rfl
      generalize menu6[k] = z0 at hz0 ez
      refine ⟨g, 6, rfl, rfl, (by show (0 : Int) < 6; decide), mp, _, _, .str z0, rfl, rfl, .inl (.inl em), by rw [hk]; exact atI_nat ez, ?_⟩
      refine ⟨r, z0, rfl, R4, ⟨hz0.1, hz0.2.1, hz0.2.2.1, hz0.2.2.2⟩, fun H5 z o5 R5 hz _ => ?_⟩
      refine ⟨.ref r, rfl, .str z, rfl, r, z, 6, rfl, R5, hz, by decide, by decide, fun H6 m1 M1 o6 R6 mm1 k1 e1 l1 => ?_⟩
      have o26 : OffN r G H6 := OffN.off ((Off.of s2).trans ((Off.new nmp).trans (o4.trans (o5.trans o6))))
      have nr7 : G r = none := nr
      have tb6 : TabsN tabs H6 := tabs_rowP (tabs_rowP (tabs_rowP ((tbG.ext s2).ext (same_new nmp)) R3 o4) R4 o5) R5 o6
      -- the machine
      refine ⟨fun σ F => OffN hp H F ∧ TabsN tabs F ∧ HeldAt F hp (3 * i) ∧ ∃ (m : Addr) (M : Mach), MachAt F m M ∧ M.Ok ∧ M.rows.length ≤ 60 ∧ σ = [some (.ref a), some (.ref hp), some (.int (0 + (i : Int))), some (.ref r), some (.str z), some (.ref m), y6, y7, y8, y9, none], ?_, fun σ F hM => ?_⟩
      · refine ⟨.ref r, rfl, r, rfl, R6, fun H7 g o7 R7 => ⟨g, 8, rfl, rfl, (by show (0 : Int) < 8; decide), rfl, _, rfl, ite2 (fun _ => ?_) (fun _ => ?_)⟩⟩
        · have o27 : OffN r G H7 := o26.trans (OffN.off o7)
          have h7 := hG.offN nr7 o27
          have p7 : OffN hp H H7 := offN_new oG nr7 o27
          have tb7 := tabs_rowP tb6 R6 o7
          refine ⟨.ref a, rfl, a, ns, 0, 1, 300, rfl, seqN p7 nhp hS, hlen, by decide, by decide, by decide, fun H8 r2 s8 nr8 R8 => ?_⟩
          refine ⟨.str z, rfl, 3, rfl, z, rfl, sl _ (by omega), ?_⟩
          refine ⟨r2, cutS z none (some 3), rfl, R8, hz.take3, fun H9 m2 M2 o9 R9 mm2 k2 e2 l2 => ?_⟩
          have o79 : OffN r2 H7 H9 := OffN.off ((Off.of s8).trans o9)
          have p9 : OffN hp H H9 := offN_new p7 nr8 o79
          exact ⟨p9, tabs_rowP (tb7.ext s8) R8 o9, h7.offN nr8 o79, m2, M2, mm2, k2, l2, rfl⟩
        · have o27 : OffN r G H7 := o26.trans (OffN.off o7)
          exact ⟨offN_new oG nr7 o27, tabs_rowP tb6 R6 o7, hG.offN nr7 o27, m1, M1, mm1.mono (Tups.off R6 o7), k1, by omega, rfl⟩
      · obtain ⟨oF, tF, hF, m, M, mm, k, hb, rfl⟩ := hM
        refine ⟨by show 3 ≤ sizeLine; decide, fun tp ntp => ⟨tp, rfl, ⟨_, .inl (.inl upd_same)⟩, ?_⟩⟩
        have sT := same_new (o := .tup [.int 1, .int 2, .int 3]) ntp
        have eT : (upd F tp (.tup [.int 1, .int 2, .int 3])) tp = some (.tup [.int 1, .int 2, .int 3]) := upd_same
        have mmT := mm.mono (Tups.same sT)
        have tT := tF.ext sT
        have hT := hF.ext (ExtN.of sT)
        have oT := oF.trans (OffN.same sT)
        generalize upd F tp (.tup [.int 1, .int 2, .int 3]) = H7 at eT mmT tT hT oT
        obtain ⟨is0, eh0, _⟩ := id hT
        refine for_it (walk_tup (K := K) (a := tp) (xs := [.int 1, .int 2, .int 3])) (fun j σ F => OffN hp H7 F ∧ TabsN tabs F ∧ HeldAt F hp (3 * i + j) ∧ ∃ y6 y7 y8 y9, σ = [some (.ref a), some (.ref hp), some (.int (0 + (i : Int))), some (.ref r), some (.str z), some (.ref m), y6, y7, y8, y9, none]) ⟨OffN.refl _ _, tT, hT, _, _, _, _, rfl⟩ (fun j σ F _ hW => .inl (.inl (tupsO hW.1 eh0 _ _ eT))) (fun j v σ F F' hj hW hY => ?_) (fun σ F hW => ?_)
        · obtain ⟨xF, tF, hF, y6, y7, y8, y9, rfl⟩ := hW
          obtain ⟨rfl, hx⟩ := hY
          obtain ⟨n, rfl, n1, n3, enj⟩ : ∃ n : Nat, v = .int (n : Int) ∧ 1 ≤ n ∧ n ≤ 3 ∧ n = j + 1 := by
            match j, hx with
            | 0, hx => cases hx; exact ⟨1, rfl, by decide, by decide, rfl⟩
            | 1, hx => cases hx; exact ⟨2, rfl, by decide, by decide, rfl⟩
            | 2, hx => cases hx; exact ⟨3, rfl, by decide, by decide, rfl⟩
            | j + 3, hx => simp at hx
          have mmF := mmT.mono (tupsO xF eh0)
          -- due
          refine ⟨.ref m, rfl, .int (n : Int), rfl, m, M, n, rfl, mmF, k, by omega, n1, n3, fun G1 dp ds s1 ndp edp sds nds lds mds => ?_⟩
          have t1 := tF.ext s1
          have mm1 := mmF.mono (Tups.same s1)
          have h1 := hF.ext (ExtN.of s1)
          -- found
          refine ⟨.ref m, rfl, .int (n : Int), rfl, m, M, n, rfl, mm1, k, by omega, n1, n3, t1, fun G2 fp ys x2 t2 nfp efp isw => ?_⟩
          have ey : ys = ds := sorted_one isw.so sds ((List.perm_ext_iff_of_nodup isw.nd nds).mpr fun x => by rw [isw.mem, mds])
          subst ey
          have oks := isw.strOk k
          have shy := shaped_strs ys oks
          have edp2 := lstN x2 edp
          have h2 := h1.ext x2
          obtain ⟨is, eh, lis, _⟩ := id h2
          have hpF := (id hF)
          obtain ⟨isF, ehF, _⟩ := hpF
          have dph : dp ≠ hp := fun z => by rw [z, ehF] at ndp; cases ndp
          have fph : fp ≠ hp := fun z => nfp hp _ (s1 _ _ ehF) (by intro ps y; cases y) z.symm
          -- if not isinstance(found, list) or found != due
          refine ⟨.ref fp, rfl, .ref fp, .ty "list", .type "list", .type "list", true, rfl, .ty _, .base (.lst efp), kit_ty (by decide +kernel), true, rfl, iteF ?_⟩
          refine ⟨.ref fp, rfl, .ref dp, rfl, .list (ys.map PyData.str), .list (ys.map PyData.str), .lst (.inl (.inl efp)) (dpAll_str _), .lst (.inl (.inl edp2)) (dpAll_str _), shy, shy, false, by rw [eqv_strs]; rfl, iteF ?_⟩
          -- held.append((found, list(due)))
          refine ⟨.ref hp, rfl, .inl ⟨rfl, _, .inl (.inl eh)⟩, .ref fp, rfl, .ref dp, rfl, dp, _, rfl, .inl (.inl (.inl edp2)), fun lp nlp => ?_⟩
          have s3 := same_new (o := .lst (vS ys)) nlp
          refine ⟨by show 2 ≤ sizeLine; decide, fun ip nip => ?_⟩
          have s4 := s3.trans (same_new (o := .tup [.ref fp, .ref lp]) nip)
          have eh4 := s4 _ _ eh
          have lph : lp ≠ hp := (ne_of_none eh nlp).symm
          have elp : (upd (upd G2 lp (.lst (vS ys))) ip (.tup [.ref fp, .ref lp])) lp = some (.lst (vS ys)) := same_new nip _ _ upd_same
          have h4 := (h2.ext (ExtN.of s4)).put (p := ip) eh4 upd_same (s4 _ _ efp) elp fph lph oks
          have t4 := t2.ext s4
          refine ⟨hp, _, _, rfl, rfl, eh4, sl' _ (by rw [List.length_map]; omega), ?_⟩
          rw [vr_snoc]
          have o4 : OffN hp H7 (upd (upd (upd G2 lp (.lst (vS ys))) ip (.tup [.ref fp, .ref lp])) hp (.lst (vr (is ++ [ip])))) := OffN.put (xF.trans ((OffN.same s1).trans ((OffN.ext x2).trans (OffN.same s4))))
          have t5 : TabsN tabs (upd (upd (upd G2 lp (.lst (vS ys))) ip (.tup [.ref fp, .ref lp])) hp (.lst (vr (is ++ [ip])))) := tabs_off t4 eh4 fun b o nb e => by
            rw [upd_ne nb]
            exact e
          have edp5 : (upd (upd (upd G2 lp (.lst (vS ys))) ip (.tup [.ref fp, .ref lp])) hp (.lst (vr (is ++ [ip])))) dp = some (.lst (vS ys)) := by
            rw [upd_ne dph]
            exact s4 _ _ edp2
          generalize upd (upd (upd G2 lp (.lst (vS ys))) ip (.tup [.ref fp, .ref lp])) hp (.lst (vr (is ++ [ip]))) = G5 at h4 o4 t5 edp5
          have mm5 := mmT.mono (tupsO o4 eh0)
          -- again
          refine ⟨.ref m, rfl, .int (n : Int), rfl, m, M, n, rfl, mm5, k, by omega, n1, n3, t5, fun G6 ap zs x6 t6 nap eap isz => ?_⟩
          have z5 := k.let_.five
          have lmul : n * M.z.length ^ n * (M.z.length + n) ≤ 3 * 125 * 8 := Nat.mul_le_mul (Nat.mul_le_mul n3 (Nat.le_trans (Nat.pow_le_pow_left z5 n) (Nat.le_trans (Nat.pow_le_pow_right (by decide) n3) (by decide)))) (by omega)
          have lzs : zs.length < sizeLine := sl' _ (Nat.le_trans isz.len (Nat.le_trans lmul (by decide)))
          refine ⟨.ref ap, rfl, .inl ⟨rfl, _, .inl (.inl eap)⟩, ap, _, _, rfl, rfl, eap, by rw [List.length_map]; exact lzs, ?_⟩
          have x7 : ExtN G5 (upd G6 ap (.lst (vS zs ++ [.str (Str.ofString "")]))) := extN_put x6 nap
          have t7 : TabsN tabs (upd G6 ap (.lst (vS zs ++ [.str (Str.ofString "")]))) := tabs_off t6 eap fun b o nb e => by
            rw [upd_ne nb]
            exact e
          generalize upd G6 ap (.lst (vS zs ++ [.str (Str.ofString "")])) = G7 at x7 t7
          have mm7 := mm5.mono (tupsN x7)
          refine ⟨.ref m, rfl, .int (n : Int), rfl, m, M, n, rfl, mm7, k, by omega, n1, n3, t7, fun G8 vp us x8 t8 _ evp isu => ?_⟩
          have eu : us = ys := isu.one isw fun _ => Iff.rfl
          subst eu
          have x58 := x7.trans x8
          refine ⟨.ref dp, rfl, .list (us.map PyData.str), .list (us.map PyData.str), .lst (.inl (.inl evp)) (dpAll_str _), .lst (.inl (.inl (lstN x58 edp5))) (dpAll_str _), shy, shy, false, by rw [eqv_strs]; rfl, iteF ?_⟩
          exact ⟨o4.trans (OffN.ext x58), t8, h4.ext x58, _, _, _, _, rfl⟩
        · obtain ⟨xF, tF, hF, y6, y7, y8, y9, rfl⟩ := hW
          exact ⟨oT.trans xF, tF, hF, _, _, _, _, _, _, _, _, rfl⟩
    · obtain ⟨oG, tG, hG, y2, y3, y4, y5, y6, y7, y8, y9, rfl⟩ := hW
      obtain ⟨is, eh, _, all⟩ := hG
      refine ⟨.ref hp, rfl, hp, rfl, ⟨_, .inl (.inl eh)⟩, fun E nE => ?_⟩
      have sE := same_new (o := .lst []) nE
      refine lc_it (walk_list (K := K) (a := hp) (xs := vr is)) (fun i G' => G' = upd G E (.lst [])) rfl (fun i G' _ hW => by rw [hW]; exact .inl (.inl (sE _ _ eh))) (fun i x G1 G1' hi hW hY => ?_) (fun G1 hW => ?_)
      · subst hW
        obtain ⟨rfl, hx⟩ := hY
        obtain ⟨p', hp', rfl⟩ := vr_at hx
        obtain ⟨f, d, us, e1, e2, e3, _, _, ok⟩ := all p' (List.mem_of_getElem? hp')
        have shU := shaped_strs us ok
        refine ⟨rfl, .ref p', rfl, p', _, 0, .ref f, rfl, rfl, .inl (.inl (sE _ _ e1)), rfl, .ref p', rfl, p', _, 1, .ref d, rfl, rfl, .inl (.inl (sE _ _ e1)), rfl, .list (us.map PyData.str), .list (us.map PyData.str), .lst (.inl (.inl (sE _ _ e2))) (dpAll_str us), .lst (.inl (.inl (sE _ _ e3))) (dpAll_str us), shU, shU, false, by rw [eqv_strs]; rfl, iteF rfl⟩
      · subst hW
        refine ⟨by show 0 ≤ sizeLine; decide, fun en nen => ?_⟩
        have sn := same_new (o := .lst []) nen
        refine ⟨.list [], .list [], .lst (.inl (.inl (sn _ _ upd_same))) .nil, .lst (.inl (.inl upd_same)) .nil, rfl, rfl, ?_⟩
        exact q _
end
end LH

namespace LH
open PySem PySem.Spec PyProof.Rows L2 NdefX LamX
theorem own_e {K : PySem.W.Frag} {fa c P : Addr} {h : Heap} {o : Obj} {fd : FuncData} (own : OwnTab K fa h) (l : K.lookup fa = some o) (hd : o.data = .func fd) (hc : fd.code = .ref c) (e : PySem.W.codeHdIn K c P = true) : h.get? P = some { cls := .none, data := .fields #[] } := by
  unfold PySem.W.codeHdIn at e
  split at e
  · rename_i vs _ hk
    simp only [Bool.and_eq_true] at e
    obtain ⟨⟨⟨⟨⟨e1, _⟩, _⟩, _⟩, _⟩, _⟩ := e
    split at e1
    · rename_i P' h11
      have hP : P' = P := beq_iff_eq.mp e1
      subst hP
      exact own c P' _ fd _ _ vs _ l hd hc hk h11
    · cases e1
  · cases e
/-- the end with tables, where some defs' tables are told by the top alone -/
theorem walk_ofTsD {l : PySem.W.OpenLaw} {n k : Nat} {q : Program} {loose : List Str} {XP : (Str → Option Value) → Heap → Prop} {YP : World → Heap → Prop} {d : DefRec} {K : Params → PySem.W.Frag} {CX : World → CXT} {x : Str} (ds : List Str)
    (hrec : ∀ y ∈ ds, ((recsOf q).any fun e => e.name == y) = true)
    (hn : l.most = some n) (hn2 : n ≤ sizeLine) (hdf : d.params.defaults = []) (hr : Room k callerA) (hY : ∀ (w : World) (h : Heap), YP w h → (K w.params).In h)
    (F : ∀ (w : World) (mg : Str → Option Value) (fa : Addr) (h : Heap), YP w h → (K w.params).In h → h.Ns mainGlobals mg → mg d.name = some (.ref fa) → (∀ y ∈ ds, ∀ fy, mg y = some (.ref fy) → OwnTab (K w.params) fy h) → LawAtS l w (K w.params) (CX w) k n x mg fa h)
    (hCX : ∀ (w : World) (H : Hp) (s : Shared) (e : Value) (s' : Shared), CX w [] H s (fun _ _ _ => False) e s' → False) :
    PySem.W.WalkO q loose XP YP l.row.toRowW d [] (fun f vs => PySem.call f vs) := by
  refine Att.attach_callB hn hdf fun w s₀ s₁ mg mb fa o pm cd doc a vs ns G Y ho hd hcd hmg hobj hints hlen hbits hg => ?_
  have KX := hY w _ Y
  have own : ∀ y ∈ ds, ∀ fy, mg y = some (.ref fy) → OwnTab (K w.params) fy s₁.heap := fun y hy fy hmy c P o1 fd1 e dd vs1 sl k1 k2 k3 k4 k5 => by
    obtain ⟨dL, hm, hn1⟩ := List.any_eq_true.mp (hrec y hy)
    have hn2 : dL.name = y := beq_iff_eq.mp hn1
    obtain ⟨a', o', fd', c', P', h1, h2, h3, h4, h5, h6⟩ := G.T.tab dL hm
    rw [hn2, hmy] at h1
    cases h1
    have g1 := KX _ _ k1
    rw [g1] at h2
    cases h2
    rw [k2] at h3
    cases h3
    rw [k3] at h4
    cases h4
    obtain ⟨⟨oc, vc, e1, _, e3, e4⟩, hP⟩ := h6
    have g2 := KX _ _ k4
    rw [g2] at e1
    cases e1
    cases e3
    rw [k5] at e4
    cases e4
    exact hP
  obtain ⟨fd, cs, sp, hT, nT, C, hb, hsp, hF⟩ := F w mg fa _ Y KX G.T.g hmg own
  exact law_callTs KX G.T.g G.T.b G.T.builtins G.T.nolimit hg hT nT C G.T.bmain hobj hints (Nat.le_trans hlen hn2) hr hF hb (fun H hH hS => hsp H a ns hlen hbits hH hS) fun H e s' => hCX w H s₁ e s'
theorem all_mk {l : PySem.W.OpenLaw} {w : World} {K : PySem.W.Frag} {h : Heap} {mg : Str → Option Value} {fa : Addr} (X : K.In h) (G : h.Ns mainGlobals mg) (hfa : mg "law" = some (.ref fa))
    {f_useful_ways : Addr} {od_useful_ways an_useful_ways : Option Addr} {sl_useful_ways : Array (Option Value)} {oc_useful_ways kV_useful_ways dc_useful_ways pm_useful_ways cd_useful_ways ct_useful_ways : Value}
    (a_useful_ways : PySem.W.nsIn K mainGlobals "useful_ways" = some (some (.ref f_useful_ways))) (l_useful_ways : K.lookup f_useful_ways = some ⟨oc_useful_ways, od_useful_ways, .func (PySem.W.fnOf "useful_ways" "useful_ways" (defArgs s_useful_ways) (defBody s_useful_ways) (defScope s_useful_ways) .none kV_useful_ways dc_useful_ways pm_useful_ways an_useful_ways cd_useful_ways ct_useful_ways), sl_useful_ways⟩) (c_useful_ways : PySem.W.codeIn K cd_useful_ways "useful_ways" = true) (k_useful_ways : PySem.W.keepIn K (.ref f_useful_ways) = true)
    {f_explored : Addr} {od_explored an_explored : Option Addr} {sl_explored : Array (Option Value)} {oc_explored kV_explored dc_explored pm_explored cd_explored ct_explored : Value}
    (a_explored : PySem.W.nsIn K mainGlobals "explored" = some (some (.ref f_explored))) (l_explored : K.lookup f_explored = some ⟨oc_explored, od_explored, .func (PySem.W.fnOf "explored" "explored" (defArgs s_explored) (defBody s_explored) (defScope s_explored) .none kV_explored dc_explored pm_explored an_explored cd_explored ct_explored), sl_explored⟩) (c_explored : PySem.W.codeIn K cd_explored "explored" = true) (k_explored : PySem.W.keepIn K (.ref f_explored) = true)
    {f_leading : Addr} {od_leading an_leading : Option Addr} {sl_leading : Array (Option Value)} {oc_leading kV_leading dc_leading pm_leading cd_leading ct_leading : Value}
    (a_leading : PySem.W.nsIn K mainGlobals "leading" = some (some (.ref f_leading))) (l_leading : K.lookup f_leading = some ⟨oc_leading, od_leading, .func (PySem.W.fnOf "leading" "leading" (defArgs s_leading) (defBody s_leading) (defScope s_leading) .none kV_leading dc_leading pm_leading an_leading cd_leading ct_leading), sl_leading⟩) (c_leading : PySem.W.codeIn K cd_leading "leading" = true) (k_leading : PySem.W.keepIn K (.ref f_leading) = true)
    {f_unseen : Addr} {od_unseen an_unseen : Option Addr} {sl_unseen : Array (Option Value)} {oc_unseen kV_unseen dc_unseen pm_unseen cd_unseen ct_unseen : Value}
    (a_unseen : PySem.W.nsIn K mainGlobals "unseen" = some (some (.ref f_unseen))) (l_unseen : K.lookup f_unseen = some ⟨oc_unseen, od_unseen, .func (PySem.W.fnOf "unseen" "unseen" (defArgs s_unseen) (defBody s_unseen) (defScope s_unseen) .none kV_unseen dc_unseen pm_unseen an_unseen cd_unseen ct_unseen), sl_unseen⟩) (c_unseen : PySem.W.codeIn K cd_unseen "unseen" = true) (k_unseen : PySem.W.keepIn K (.ref f_unseen) = true)
    {f_end_marks : Addr} {od_end_marks an_end_marks : Option Addr} {sl_end_marks : Array (Option Value)} {oc_end_marks kV_end_marks dc_end_marks pm_end_marks cd_end_marks ct_end_marks : Value}
    (a_end_marks : PySem.W.nsIn K mainGlobals "end_marks" = some (some (.ref f_end_marks))) (l_end_marks : K.lookup f_end_marks = some ⟨oc_end_marks, od_end_marks, .func (PySem.W.fnOf "end_marks" "end_marks" (defArgs s_end_marks) (defBody s_end_marks) (defScope s_end_marks) .none kV_end_marks dc_end_marks pm_end_marks an_end_marks cd_end_marks ct_end_marks), sl_end_marks⟩) (c_end_marks : PySem.W.codeIn K cd_end_marks "end_marks" = true) (k_end_marks : PySem.W.keepIn K (.ref f_end_marks) = true)
    {f_ways_of cr_ways_of pt_ways_of : Addr} {od_ways_of an_ways_of : Option Addr} {sl_ways_of : Array (Option Value)} {oc_ways_of kV_ways_of dc_ways_of pm_ways_of ct_ways_of : Value}
    (a_ways_of : PySem.W.nsIn K mainGlobals "ways_of" = some (some (.ref f_ways_of))) (l_ways_of : K.lookup f_ways_of = some ⟨oc_ways_of, od_ways_of, .func (PySem.W.fnOf "ways_of" "ways_of" (defArgs s_ways_of) (defBody s_ways_of) (defScope s_ways_of) .none kV_ways_of dc_ways_of pm_ways_of an_ways_of (.ref cr_ways_of) ct_ways_of), sl_ways_of⟩) (c_ways_of : PySem.W.codeIn K (.ref cr_ways_of) "ways_of" = true) (k_ways_of : PySem.W.keepIn K (.ref f_ways_of) = true)
    (h_ways_of : PySem.W.codeHdIn K cr_ways_of pt_ways_of = true) (n_ways_of : K.lookup pt_ways_of = none) (e_ways_of : h.get? pt_ways_of = some { cls := .none, data := .fields #[] })
    {f_windows_of : Addr} {od_windows_of an_windows_of : Option Addr} {sl_windows_of : Array (Option Value)} {oc_windows_of kV_windows_of dc_windows_of pm_windows_of cd_windows_of ct_windows_of : Value}
    (a_windows_of : PySem.W.nsIn K mainGlobals "windows_of" = some (some (.ref f_windows_of))) (l_windows_of : K.lookup f_windows_of = some ⟨oc_windows_of, od_windows_of, .func (PySem.W.fnOf "windows_of" "windows_of" (defArgs s_windows_of) (defBody s_windows_of) (defScope s_windows_of) .none kV_windows_of dc_windows_of pm_windows_of an_windows_of cd_windows_of ct_windows_of), sl_windows_of⟩) (c_windows_of : PySem.W.codeIn K cd_windows_of "windows_of" = true) (k_windows_of : PySem.W.keepIn K (.ref f_windows_of) = true)
    {f_windows_of_ways cr_windows_of_ways pt_windows_of_ways : Addr} {od_windows_of_ways an_windows_of_ways : Option Addr} {sl_windows_of_ways : Array (Option Value)} {oc_windows_of_ways kV_windows_of_ways dc_windows_of_ways pm_windows_of_ways ct_windows_of_ways : Value}
    (a_windows_of_ways : PySem.W.nsIn K mainGlobals "windows_of_ways" = some (some (.ref f_windows_of_ways))) (l_windows_of_ways : K.lookup f_windows_of_ways = some ⟨oc_windows_of_ways, od_windows_of_ways, .func (PySem.W.fnOf "windows_of_ways" "windows_of_ways" (defArgs s_windows_of_ways) (defBody s_windows_of_ways) (defScope s_windows_of_ways) .none kV_windows_of_ways dc_windows_of_ways pm_windows_of_ways an_windows_of_ways (.ref cr_windows_of_ways) ct_windows_of_ways), sl_windows_of_ways⟩) (c_windows_of_ways : PySem.W.codeIn K (.ref cr_windows_of_ways) "windows_of_ways" = true) (k_windows_of_ways : PySem.W.keepIn K (.ref f_windows_of_ways) = true)
    (h_windows_of_ways : PySem.W.codeHdIn K cr_windows_of_ways pt_windows_of_ways = true) (n_windows_of_ways : K.lookup pt_windows_of_ways = none) (own_windows_of_ways : ∀ f, PySem.W.nsIn K mainGlobals "windows_of_ways" = some (some (.ref f)) → LamX.OwnTab K f h)
    {f_reached_behind : Addr} {od_reached_behind an_reached_behind : Option Addr} {sl_reached_behind : Array (Option Value)} {oc_reached_behind kV_reached_behind dc_reached_behind pm_reached_behind cd_reached_behind ct_reached_behind : Value}
    (a_reached_behind : PySem.W.nsIn K mainGlobals "reached_behind" = some (some (.ref f_reached_behind))) (l_reached_behind : K.lookup f_reached_behind = some ⟨oc_reached_behind, od_reached_behind, .func (PySem.W.fnOf "reached_behind" "reached_behind" (defArgs s_reached_behind) (defBody s_reached_behind) (defScope s_reached_behind) .none kV_reached_behind dc_reached_behind pm_reached_behind an_reached_behind cd_reached_behind ct_reached_behind), sl_reached_behind⟩) (c_reached_behind : PySem.W.codeIn K cd_reached_behind "reached_behind" = true) (k_reached_behind : PySem.W.keepIn K (.ref f_reached_behind) = true)
    {f_one_letter_on : Addr} {od_one_letter_on an_one_letter_on : Option Addr} {sl_one_letter_on : Array (Option Value)} {oc_one_letter_on kV_one_letter_on dc_one_letter_on pm_one_letter_on cd_one_letter_on ct_one_letter_on : Value}
    (a_one_letter_on : PySem.W.nsIn K mainGlobals "one_letter_on" = some (some (.ref f_one_letter_on))) (l_one_letter_on : K.lookup f_one_letter_on = some ⟨oc_one_letter_on, od_one_letter_on, .func (PySem.W.fnOf "one_letter_on" "one_letter_on" (defArgs s_one_letter_on) (defBody s_one_letter_on) (defScope s_one_letter_on) .none kV_one_letter_on dc_one_letter_on pm_one_letter_on an_one_letter_on cd_one_letter_on ct_one_letter_on), sl_one_letter_on⟩) (c_one_letter_on : PySem.W.codeIn K cd_one_letter_on "one_letter_on" = true) (k_one_letter_on : PySem.W.keepIn K (.ref f_one_letter_on) = true)
    {f_last_windows : Addr} {od_last_windows an_last_windows : Option Addr} {sl_last_windows : Array (Option Value)} {oc_last_windows kV_last_windows dc_last_windows pm_last_windows cd_last_windows ct_last_windows : Value}
    (a_last_windows : PySem.W.nsIn K mainGlobals "last_windows" = some (some (.ref f_last_windows))) (l_last_windows : K.lookup f_last_windows = some ⟨oc_last_windows, od_last_windows, .func (PySem.W.fnOf "last_windows" "last_windows" (defArgs s_last_windows) (defBody s_last_windows) (defScope s_last_windows) .none kV_last_windows dc_last_windows pm_last_windows an_last_windows cd_last_windows ct_last_windows), sl_last_windows⟩) (c_last_windows : PySem.W.codeIn K cd_last_windows "last_windows" = true) (k_last_windows : PySem.W.keepIn K (.ref f_last_windows) = true)
    {f_law_mixed : Addr} {od_law_mixed an_law_mixed : Option Addr} {sl_law_mixed : Array (Option Value)} {oc_law_mixed kV_law_mixed dc_law_mixed pm_law_mixed cd_law_mixed ct_law_mixed : Value}
    (a_law_mixed : PySem.W.nsIn K mainGlobals "_law_mixed" = some (some (.ref f_law_mixed))) (l_law_mixed : K.lookup f_law_mixed = some ⟨oc_law_mixed, od_law_mixed, .func (PySem.W.fnOf "_law_mixed" "_law_mixed" (defArgs s_law_mixed) (defBody s_law_mixed) (defScope s_law_mixed) .none kV_law_mixed dc_law_mixed pm_law_mixed an_law_mixed cd_law_mixed ct_law_mixed), sl_law_mixed⟩) (c_law_mixed : PySem.W.codeIn K cd_law_mixed "_law_mixed" = true) (k_law_mixed : PySem.W.keepIn K (.ref f_law_mixed) = true)
    {f_law_purse : Addr} {od_law_purse an_law_purse : Option Addr} {sl_law_purse : Array (Option Value)} {oc_law_purse kV_law_purse dc_law_purse pm_law_purse cd_law_purse ct_law_purse : Value}
    (a_law_purse : PySem.W.nsIn K mainGlobals "_law_purse" = some (some (.ref f_law_purse))) (l_law_purse : K.lookup f_law_purse = some ⟨oc_law_purse, od_law_purse, .func (PySem.W.fnOf "_law_purse" "_law_purse" (defArgs s_law_purse) (defBody s_law_purse) (defScope s_law_purse) .none kV_law_purse dc_law_purse pm_law_purse an_law_purse cd_law_purse ct_law_purse), sl_law_purse⟩) (c_law_purse : PySem.W.codeIn K cd_law_purse "_law_purse" = true) (k_law_purse : PySem.W.keepIn K (.ref f_law_purse) = true)
    {f_law_next : Addr} {od_law_next an_law_next : Option Addr} {sl_law_next : Array (Option Value)} {oc_law_next kV_law_next dc_law_next pm_law_next cd_law_next ct_law_next : Value}
    (a_law_next : PySem.W.nsIn K mainGlobals "_law_next" = some (some (.ref f_law_next))) (l_law_next : K.lookup f_law_next = some ⟨oc_law_next, od_law_next, .func (PySem.W.fnOf "_law_next" "_law_next" (defArgs s_law_next) (defBody s_law_next) (defScope s_law_next) .none kV_law_next dc_law_next pm_law_next an_law_next cd_law_next ct_law_next), sl_law_next⟩) (c_law_next : PySem.W.codeIn K cd_law_next "_law_next" = true) (k_law_next : PySem.W.keepIn K (.ref f_law_next) = true)
    {f_law_turned : Addr} {od_law_turned an_law_turned : Option Addr} {sl_law_turned : Array (Option Value)} {oc_law_turned kV_law_turned dc_law_turned pm_law_turned cd_law_turned ct_law_turned : Value}
    (a_law_turned : PySem.W.nsIn K mainGlobals "_law_turned" = some (some (.ref f_law_turned))) (l_law_turned : K.lookup f_law_turned = some ⟨oc_law_turned, od_law_turned, .func (PySem.W.fnOf "_law_turned" "_law_turned" (defArgs s_law_turned) (defBody s_law_turned) (defScope s_law_turned) .none kV_law_turned dc_law_turned pm_law_turned an_law_turned cd_law_turned ct_law_turned), sl_law_turned⟩) (c_law_turned : PySem.W.codeIn K cd_law_turned "_law_turned" = true) (k_law_turned : PySem.W.keepIn K (.ref f_law_turned) = true)
    {f_law_machine : Addr} {od_law_machine an_law_machine : Option Addr} {sl_law_machine : Array (Option Value)} {oc_law_machine kV_law_machine dc_law_machine pm_law_machine cd_law_machine ct_law_machine : Value}
    (a_law_machine : PySem.W.nsIn K mainGlobals "_law_machine" = some (some (.ref f_law_machine))) (l_law_machine : K.lookup f_law_machine = some ⟨oc_law_machine, od_law_machine, .func (PySem.W.fnOf "_law_machine" "_law_machine" (defArgs s_law_machine) (defBody s_law_machine) (defScope s_law_machine) .none kV_law_machine dc_law_machine pm_law_machine an_law_machine cd_law_machine ct_law_machine), sl_law_machine⟩) (c_law_machine : PySem.W.codeIn K cd_law_machine "_law_machine" = true) (k_law_machine : PySem.W.keepIn K (.ref f_law_machine) = true)
    {f_law_behind : Addr} {od_law_behind an_law_behind : Option Addr} {sl_law_behind : Array (Option Value)} {oc_law_behind kV_law_behind dc_law_behind pm_law_behind cd_law_behind ct_law_behind : Value}
    (a_law_behind : PySem.W.nsIn K mainGlobals "_law_behind" = some (some (.ref f_law_behind))) (l_law_behind : K.lookup f_law_behind = some ⟨oc_law_behind, od_law_behind, .func (PySem.W.fnOf "_law_behind" "_law_behind" (defArgs s_law_behind) (defBody s_law_behind) (defScope s_law_behind) .none kV_law_behind dc_law_behind pm_law_behind an_law_behind cd_law_behind ct_law_behind), sl_law_behind⟩) (c_law_behind : PySem.W.codeIn K cd_law_behind "_law_behind" = true) (k_law_behind : PySem.W.keepIn K (.ref f_law_behind) = true)
    {f_law_texts : Addr} {od_law_texts an_law_texts : Option Addr} {sl_law_texts : Array (Option Value)} {oc_law_texts kV_law_texts dc_law_texts pm_law_texts cd_law_texts ct_law_texts : Value}
    (a_law_texts : PySem.W.nsIn K mainGlobals "_law_texts" = some (some (.ref f_law_texts))) (l_law_texts : K.lookup f_law_texts = some ⟨oc_law_texts, od_law_texts, .func (PySem.W.fnOf "_law_texts" "_law_texts" (defArgs s_law_texts) (defBody s_law_texts) (defScope s_law_texts) .none kV_law_texts dc_law_texts pm_law_texts an_law_texts cd_law_texts ct_law_texts), sl_law_texts⟩) (c_law_texts : PySem.W.codeIn K cd_law_texts "_law_texts" = true) (k_law_texts : PySem.W.keepIn K (.ref f_law_texts) = true)
    {f_law_come_to : Addr} {od_law_come_to an_law_come_to : Option Addr} {sl_law_come_to : Array (Option Value)} {oc_law_come_to kV_law_come_to dc_law_come_to pm_law_come_to cd_law_come_to ct_law_come_to : Value}
    (a_law_come_to : PySem.W.nsIn K mainGlobals "_law_come_to" = some (some (.ref f_law_come_to))) (l_law_come_to : K.lookup f_law_come_to = some ⟨oc_law_come_to, od_law_come_to, .func (PySem.W.fnOf "_law_come_to" "_law_come_to" (defArgs s_law_come_to) (defBody s_law_come_to) (defScope s_law_come_to) .none kV_law_come_to dc_law_come_to pm_law_come_to an_law_come_to cd_law_come_to ct_law_come_to), sl_law_come_to⟩) (c_law_come_to : PySem.W.codeIn K cd_law_come_to "_law_come_to" = true) (k_law_come_to : PySem.W.keepIn K (.ref f_law_come_to) = true)
    {f_law_good : Addr} {od_law_good an_law_good : Option Addr} {sl_law_good : Array (Option Value)} {oc_law_good kV_law_good dc_law_good pm_law_good cd_law_good ct_law_good : Value}
    (a_law_good : PySem.W.nsIn K mainGlobals "_law_good" = some (some (.ref f_law_good))) (l_law_good : K.lookup f_law_good = some ⟨oc_law_good, od_law_good, .func (PySem.W.fnOf "_law_good" "_law_good" (defArgs s_law_good) (defBody s_law_good) (defScope s_law_good) .none kV_law_good dc_law_good pm_law_good an_law_good cd_law_good ct_law_good), sl_law_good⟩) (c_law_good : PySem.W.codeIn K cd_law_good "_law_good" = true) (k_law_good : PySem.W.keepIn K (.ref f_law_good) = true)
    {f_law_is : Addr} {od_law_is an_law_is : Option Addr} {sl_law_is : Array (Option Value)} {oc_law_is kV_law_is dc_law_is pm_law_is cd_law_is ct_law_is : Value}
    (a_law_is : PySem.W.nsIn K mainGlobals "_law_is" = some (some (.ref f_law_is))) (l_law_is : K.lookup f_law_is = some ⟨oc_law_is, od_law_is, .func (PySem.W.fnOf "_law_is" "_law_is" (defArgs s_law_is) (defBody s_law_is) (defScope s_law_is) .none kV_law_is dc_law_is pm_law_is an_law_is cd_law_is ct_law_is), sl_law_is⟩) (c_law_is : PySem.W.codeIn K cd_law_is "_law_is" = true) (k_law_is : PySem.W.keepIn K (.ref f_law_is) = true)
    {f_law_due : Addr} {od_law_due an_law_due : Option Addr} {sl_law_due : Array (Option Value)} {oc_law_due kV_law_due dc_law_due pm_law_due cd_law_due ct_law_due : Value}
    (a_law_due : PySem.W.nsIn K mainGlobals "_law_due" = some (some (.ref f_law_due))) (l_law_due : K.lookup f_law_due = some ⟨oc_law_due, od_law_due, .func (PySem.W.fnOf "_law_due" "_law_due" (defArgs s_law_due) (defBody s_law_due) (defScope s_law_due) .none kV_law_due dc_law_due pm_law_due an_law_due cd_law_due ct_law_due), sl_law_due⟩) (c_law_due : PySem.W.codeIn K cd_law_due "_law_due" = true) (k_law_due : PySem.W.keepIn K (.ref f_law_due) = true)
    {f_law_chain : Addr} {od_law_chain an_law_chain : Option Addr} {sl_law_chain : Array (Option Value)} {oc_law_chain kV_law_chain dc_law_chain pm_law_chain cd_law_chain ct_law_chain : Value}
    (a_law_chain : PySem.W.nsIn K mainGlobals "_law_chain" = some (some (.ref f_law_chain))) (l_law_chain : K.lookup f_law_chain = some ⟨oc_law_chain, od_law_chain, .func (PySem.W.fnOf "_law_chain" "_law_chain" (defArgs s_law_chain) (defBody s_law_chain) (defScope s_law_chain) .none kV_law_chain dc_law_chain pm_law_chain an_law_chain cd_law_chain ct_law_chain), sl_law_chain⟩) (c_law_chain : PySem.W.codeIn K cd_law_chain "_law_chain" = true) (k_law_chain : PySem.W.keepIn K (.ref f_law_chain) = true)
    {f_law : Addr} {od_law an_law : Option Addr} {sl_law : Array (Option Value)} {oc_law kV_law dc_law pm_law cd_law ct_law : Value}
    (a_law : PySem.W.nsIn K mainGlobals "law" = some (some (.ref f_law))) (l_law : K.lookup f_law = some ⟨oc_law, od_law, .func (PySem.W.fnOf "law" "law" (defArgs s_law) (defBody s_law) (defScope s_law) .none kV_law dc_law pm_law an_law cd_law ct_law), sl_law⟩) (c_law : PySem.W.codeIn K cd_law "law" = true) (k_law : PySem.W.keepIn K (.ref f_law) = true)
    (d_ways_of_windows_of_ways : pt_ways_of ≠ pt_windows_of_ways)
    (d_windows_of_ways_ways_of : pt_windows_of_ways ≠ pt_ways_of)
    (z_abs : PySem.W.nsIn K mainGlobals "abs" = some none)
    (z_any : PySem.W.nsIn K mainGlobals "any" = some none)
    (z_enumerate : PySem.W.nsIn K mainGlobals "enumerate" = some none)
    (z_int : PySem.W.nsIn K mainGlobals "int" = some none)
    (z_isinstance : PySem.W.nsIn K mainGlobals "isinstance" = some none)
    (z_len : PySem.W.nsIn K mainGlobals "len" = some none)
    (z_list : PySem.W.nsIn K mainGlobals "list" = some none)
    (z_min : PySem.W.nsIn K mainGlobals "min" = some none)
    (z_range : PySem.W.nsIn K mainGlobals "range" = some none)
    (z_reversed : PySem.W.nsIn K mainGlobals "reversed" = some none)
    (z_set : PySem.W.nsIn K mainGlobals "set" = some none)
    (z_sorted : PySem.W.nsIn K mainGlobals "sorted" = some none)
    (z_tuple : PySem.W.nsIn K mainGlobals "tuple" = some none)
    (z_zip : PySem.W.nsIn K mainGlobals "zip" = some none)
    {t_BACK : Tok} (y_BACK : PySem.W.nsIn K mainGlobals "BACK" = some (some (.str "$" t_BACK)))
    {t_FRONT : Tok} (y_FRONT : PySem.W.nsIn K mainGlobals "FRONT" = some (some (.str "^" t_FRONT)))
    : LamX.LawAtS l w K CX0 10 63 "script" mg fa h := by
  have e := hfa.symm.trans (PySem.W.mg_of X G a_law)
  cases e
  have e_windows_of_ways := LH.own_e (own_windows_of_ways _ a_windows_of_ways) l_windows_of_ways rfl rfl h_windows_of_ways
  have F_useful_ways := fun_mk (st := s_useful_ways) l_useful_ways c_useful_ways k_useful_ways
  have F_explored := fun_mk (st := s_explored) l_explored c_explored k_explored
  have F_leading := fun_mk (st := s_leading) l_leading c_leading k_leading
  have F_unseen := fun_mk (st := s_unseen) l_unseen c_unseen k_unseen
  have F_end_marks := fun_mk (st := s_end_marks) l_end_marks c_end_marks k_end_marks
  have F_ways_of := fun_mk (st := s_ways_of) l_ways_of c_ways_of k_ways_of
  have F_windows_of := fun_mk (st := s_windows_of) l_windows_of c_windows_of k_windows_of
  have F_windows_of_ways := fun_mk (st := s_windows_of_ways) l_windows_of_ways c_windows_of_ways k_windows_of_ways
  have F_reached_behind := fun_mk (st := s_reached_behind) l_reached_behind c_reached_behind k_reached_behind
  have F_one_letter_on := fun_mk (st := s_one_letter_on) l_one_letter_on c_one_letter_on k_one_letter_on
  have F_last_windows := fun_mk (st := s_last_windows) l_last_windows c_last_windows k_last_windows
  have F_law_mixed := fun_mk (st := s_law_mixed) l_law_mixed c_law_mixed k_law_mixed
  have F_law_purse := fun_mk (st := s_law_purse) l_law_purse c_law_purse k_law_purse
  have F_law_next := fun_mk (st := s_law_next) l_law_next c_law_next k_law_next
  have F_law_turned := fun_mk (st := s_law_turned) l_law_turned c_law_turned k_law_turned
  have F_law_machine := fun_mk (st := s_law_machine) l_law_machine c_law_machine k_law_machine
  have F_law_behind := fun_mk (st := s_law_behind) l_law_behind c_law_behind k_law_behind
  have F_law_texts := fun_mk (st := s_law_texts) l_law_texts c_law_texts k_law_texts
  have F_law_come_to := fun_mk (st := s_law_come_to) l_law_come_to c_law_come_to k_law_come_to
  have F_law_good := fun_mk (st := s_law_good) l_law_good c_law_good k_law_good
  have F_law_is := fun_mk (st := s_law_is) l_law_is c_law_is k_law_is
  have F_law_due := fun_mk (st := s_law_due) l_law_due c_law_due k_law_due
  have F_law_chain := fun_mk (st := s_law_chain) l_law_chain c_law_chain k_law_chain
  have F_law := fun_mk (st := s_law) l_law c_law k_law
  let T : TX K mg := {
    a_useful_ways := f_useful_ways, fd_useful_ways := _, F_useful_ways := F_useful_ways, b_useful_ways := F_useful_ways.binds (ps := ["starts", "moves", "is_end"]) (fun _ _ _ _ _ _ us hl => match us, hl with | [_, _, _], _ => rfl), g_useful_ways := PySem.W.mg_of X G a_useful_ways,
    a_explored := f_explored, fd_explored := _, F_explored := F_explored, b_explored := F_explored.binds (ps := ["starts", "moves"]) (fun _ _ _ _ _ _ us hl => match us, hl with | [_, _], _ => rfl), g_explored := PySem.W.mg_of X G a_explored,
    a_leading := f_leading, fd_leading := _, F_leading := F_leading, b_leading := F_leading.binds (ps := ["rows", "ended"]) (fun _ _ _ _ _ _ us hl => match us, hl with | [_, _], _ => rfl), g_leading := PySem.W.mg_of X G a_leading,
    a_unseen := f_unseen, fd_unseen := _, F_unseen := F_unseen, b_unseen := F_unseen.binds (ps := ["lists", "seen"]) (fun _ _ _ _ _ _ us hl => match us, hl with | [_, _], _ => rfl), g_unseen := PySem.W.mg_of X G a_unseen,
    a_end_marks := f_end_marks, fd_end_marks := _, F_end_marks := F_end_marks, b_end_marks := F_end_marks.binds (ps := ["machine"]) (fun _ _ _ _ _ _ us hl => match us, hl with | [_], _ => rfl), g_end_marks := PySem.W.mg_of X G a_end_marks,
    a_ways_of := f_ways_of, fd_ways_of := _, F_ways_of := F_ways_of, b_ways_of := F_ways_of.binds (ps := ["machine"]) (fun _ _ _ _ _ _ us hl => match us, hl with | [_], _ => rfl), g_ways_of := PySem.W.mg_of X G a_ways_of,
    a_windows_of := f_windows_of, fd_windows_of := _, F_windows_of := F_windows_of, b_windows_of := F_windows_of.binds (ps := ["machine", "size"]) (fun _ _ _ _ _ _ us hl => match us, hl with | [_, _], _ => rfl), g_windows_of := PySem.W.mg_of X G a_windows_of,
    a_windows_of_ways := f_windows_of_ways, fd_windows_of_ways := _, F_windows_of_ways := F_windows_of_ways, b_windows_of_ways := F_windows_of_ways.binds (ps := ["letters", "firsts", "ways", "ended", "size"]) (fun _ _ _ _ _ _ us hl => match us, hl with | [_, _, _, _, _], _ => rfl), g_windows_of_ways := PySem.W.mg_of X G a_windows_of_ways,
    a_reached_behind := f_reached_behind, fd_reached_behind := _, F_reached_behind := F_reached_behind, b_reached_behind := F_reached_behind.binds (ps := ["letters", "firsts", "ways", "size"]) (fun _ _ _ _ _ _ us hl => match us, hl with | [_, _, _, _], _ => rfl), g_reached_behind := PySem.W.mg_of X G a_reached_behind,
    a_one_letter_on := f_one_letter_on, fd_one_letter_on := _, F_one_letter_on := F_one_letter_on, b_one_letter_on := F_one_letter_on.binds (ps := ["letters", "ways", "reached"]) (fun _ _ _ _ _ _ us hl => match us, hl with | [_, _, _], _ => rfl), g_one_letter_on := PySem.W.mg_of X G a_one_letter_on,
    a_last_windows := f_last_windows, fd_last_windows := _, F_last_windows := F_last_windows, b_last_windows := F_last_windows.binds (ps := ["held", "size"]) (fun _ _ _ _ _ _ us hl => match us, hl with | [_, _], _ => rfl), g_last_windows := PySem.W.mg_of X G a_last_windows,
    a_law_mixed := f_law_mixed, fd_law_mixed := _, F_law_mixed := F_law_mixed, b_law_mixed := F_law_mixed.binds (ps := ["cell", "k"]) (fun _ _ _ _ _ _ us hl => match us, hl with | [_, _], _ => rfl), g_law_mixed := PySem.W.mg_of X G a_law_mixed,
    a_law_purse := f_law_purse, fd_law_purse := _, F_law_purse := F_law_purse, b_law_purse := F_law_purse.binds (ps := ["script", "at", "step", "many"]) (fun _ _ _ _ _ _ us hl => match us, hl with | [_, _, _, _], _ => rfl), g_law_purse := PySem.W.mg_of X G a_law_purse,
    a_law_next := f_law_next, fd_law_next := _, F_law_next := F_law_next, b_law_next := F_law_next.binds (ps := ["purse"]) (fun _ _ _ _ _ _ us hl => match us, hl with | [_], _ => rfl), g_law_next := PySem.W.mg_of X G a_law_next,
    a_law_turned := f_law_turned, fd_law_turned := _, F_law_turned := F_law_turned, b_law_turned := F_law_turned.binds (ps := ["purse", "letters"]) (fun _ _ _ _ _ _ us hl => match us, hl with | [_, _], _ => rfl), g_law_turned := PySem.W.mg_of X G a_law_turned,
    a_law_machine := f_law_machine, fd_law_machine := _, F_law_machine := F_law_machine, b_law_machine := F_law_machine.binds (ps := ["purse", "letters", "most"]) (fun _ _ _ _ _ _ us hl => match us, hl with | [_, _, _], _ => rfl), g_law_machine := PySem.W.mg_of X G a_law_machine,
    a_law_behind := f_law_behind, fd_law_behind := _, F_law_behind := F_law_behind, b_law_behind := F_law_behind.binds (ps := ["machine", "state", "word"]) (fun _ _ _ _ _ _ us hl => match us, hl with | [_, _, _], _ => rfl), g_law_behind := PySem.W.mg_of X G a_law_behind,
    a_law_texts := f_law_texts, fd_law_texts := _, F_law_texts := F_law_texts, b_law_texts := F_law_texts.binds (ps := ["letters", "size"]) (fun _ _ _ _ _ _ us hl => match us, hl with | [_, _], _ => rfl), g_law_texts := PySem.W.mg_of X G a_law_texts,
    a_law_come_to := f_law_come_to, fd_law_come_to := _, F_law_come_to := F_law_come_to, b_law_come_to := F_law_come_to.binds (ps := ["machine"]) (fun _ _ _ _ _ _ us hl => match us, hl with | [_], _ => rfl), g_law_come_to := PySem.W.mg_of X G a_law_come_to,
    a_law_good := f_law_good, fd_law_good := _, F_law_good := F_law_good, b_law_good := F_law_good.binds (ps := ["machine"]) (fun _ _ _ _ _ _ us hl => match us, hl with | [_], _ => rfl), g_law_good := PySem.W.mg_of X G a_law_good,
    a_law_is := f_law_is, fd_law_is := _, F_law_is := F_law_is, b_law_is := F_law_is.binds (ps := ["machine", "reached", "good", "ahead", "middle", "last"]) (fun _ _ _ _ _ _ us hl => match us, hl with | [_, _, _, _, _, _], _ => rfl), g_law_is := PySem.W.mg_of X G a_law_is,
    a_law_due := f_law_due, fd_law_due := _, F_law_due := F_law_due, b_law_due := F_law_due.binds (ps := ["machine", "size"]) (fun _ _ _ _ _ _ us hl => match us, hl with | [_, _], _ => rfl), g_law_due := PySem.W.mg_of X G a_law_due,
    a_law_chain := f_law_chain, fd_law_chain := _, F_law_chain := F_law_chain, b_law_chain := F_law_chain.binds (ps := ["purse", "letters"]) (fun _ _ _ _ _ _ us hl => match us, hl with | [_, _], _ => rfl), g_law_chain := PySem.W.mg_of X G a_law_chain,
    m_abs := PySem.W.mg_none_of X G z_abs,
    m_any := PySem.W.mg_none_of X G z_any,
    m_enumerate := PySem.W.mg_none_of X G z_enumerate,
    m_int := PySem.W.mg_none_of X G z_int,
    m_isinstance := PySem.W.mg_none_of X G z_isinstance,
    m_len := PySem.W.mg_none_of X G z_len,
    m_list := PySem.W.mg_none_of X G z_list,
    m_min := PySem.W.mg_none_of X G z_min,
    m_range := PySem.W.mg_none_of X G z_range,
    m_reversed := PySem.W.mg_none_of X G z_reversed,
    m_set := PySem.W.mg_none_of X G z_set,
    m_sorted := PySem.W.mg_none_of X G z_sorted,
    m_tuple := PySem.W.mg_none_of X G z_tuple,
    m_zip := PySem.W.mg_none_of X G z_zip,
    t_BACK := t_BACK, c_BACK := PySem.W.mg_of X G y_BACK,
    t_FRONT := t_FRONT, c_FRONT := PySem.W.mg_of X G y_FRONT }
  refine ⟨PySem.W.fnOf "law" "law" (defArgs s_law) (defBody s_law) (defScope s_law) .none kV_law dc_law pm_law an_law cd_law ct_law, [(cr_ways_of, pt_ways_of), (cr_windows_of_ways, pt_windows_of_ways)], sp_law K [(pt_ways_of, nm_ways_of), (pt_windows_of_ways, nm_windows_of_ways)], (fun p hp => by
      simp only [List.mem_cons, List.mem_nil_iff, or_false] at hp
      rcases hp with rfl | rfl
      · exact e_ways_of
      · exact e_windows_of_ways), (fun p hp => by
      simp only [List.mem_cons, List.mem_nil_iff, or_false] at hp
      rcases hp with rfl | rfl
      · exact n_ways_of
      · exact n_windows_of_ways), (fun p hp => by
      simp only [List.mem_cons, List.mem_nil_iff, or_false] at hp
      rcases hp with rfl | rfl
      · exact PySem.W.codeHd_of_K X h_ways_of
      · exact PySem.W.codeHd_of_K X h_windows_of_ways), fun s v => .of_eq rfl, fun H a ns hl _ ht hS => ⟨a, ns, rfl, hS, hl, (fun p hp => by
      simp only [List.mem_cons, List.mem_nil_iff, or_false] at hp
      rcases hp with rfl | rfl
      · exact NdefX.TabN.nil (ht (cr_ways_of, pt_ways_of) (by simp))
      · exact NdefX.TabN.nil (ht (cr_windows_of_ways, pt_windows_of_ways) (by simp))), fun _ => rfl⟩, fun base _ _ tB => ?_⟩
  have C_ways_of : FunC K "ways_of" "ways_of" s_ways_of T.a_ways_of T.fd_ways_of cr_ways_of := ⟨_, _, _, _, _, _, _, _, rfl, l_ways_of, c_ways_of⟩
  have G_ways_of := ok_ways_of (P := l.prog) (w := w) (base := base) T (tabs := [(pt_ways_of, nm_ways_of), (pt_windows_of_ways, nm_windows_of_ways)]) C_ways_of (tB (cr_ways_of, pt_ways_of) (by simp)) (by simp) (fun p hp hpe => by
    simp only [List.mem_cons, List.mem_nil_iff, or_false] at hp
    rcases hp with rfl | rfl
    · rfl
    · exact absurd hpe d_windows_of_ways_ways_of)
  have C_windows_of_ways : FunC K "windows_of_ways" "windows_of_ways" s_windows_of_ways T.a_windows_of_ways T.fd_windows_of_ways cr_windows_of_ways := ⟨_, _, _, _, _, _, _, _, rfl, l_windows_of_ways, c_windows_of_ways⟩
  have G_windows_of_ways := ok_windows_of_ways (P := l.prog) (w := w) (base := base) T (tabs := [(pt_ways_of, nm_ways_of), (pt_windows_of_ways, nm_windows_of_ways)]) C_windows_of_ways (tB (cr_windows_of_ways, pt_windows_of_ways) (by simp)) (by simp) (fun p hp hpe => by
    simp only [List.mem_cons, List.mem_nil_iff, or_false] at hp
    rcases hp with rfl | rfl
    · exact absurd hpe d_ways_of_windows_of_ways
    · rfl)
  exact ok_law F_law T G_ways_of G_windows_of_ways
end LH
open PySem PySem.W PyProof.Rows
set_option maxHeartbeats 0 in
theorem PySem.Challenge.cw_likehands_k61_windows_of_machines_holds : PySem.Challenge.rw_likehands_k61_windows_of_machines.Holds := by
  w_on; o_law; k_head; (case hw => w_witness2)
  k_fill
  refine LH.walk_ofTsD (l := PySem.Challenge.rw_likehands_k61_windows_of_machines) (n := 63) (k := 10) (x := "script") (CX := fun _ => L2.CX0) ["windows_of_ways"] (by decide +kernel) rfl (by decide) rfl ⟨rfl, by decide, by decide⟩ (fun w h Y => PySem.W.km_in_of Y) ?F (fun _ _ _ _ _ h => h)
  case F =>
    intro w mg fa h Y KX G hmg owns
    have tt := PySem.W.km_tabs_of Y
    refine' LH.all_mk (pt_windows_of_ways := 57) KX G hmg ?a_useful_ways ?l_useful_ways ?c_useful_ways ?k_useful_ways ?a_explored ?l_explored ?c_explored ?k_explored ?a_leading ?l_leading ?c_leading ?k_leading ?a_unseen ?l_unseen ?c_unseen ?k_unseen ?a_end_marks ?l_end_marks ?c_end_marks ?k_end_marks ?a_ways_of ?l_ways_of ?c_ways_of ?k_ways_of ?h_ways_of ?n_ways_of (tt 43 (by simp)) ?a_windows_of ?l_windows_of ?c_windows_of ?k_windows_of ?a_windows_of_ways ?l_windows_of_ways ?c_windows_of_ways ?k_windows_of_ways ?h_windows_of_ways ?n_windows_of_ways (fun f e => owns "windows_of_ways" (by simp) f (PySem.W.mg_of KX G e)) ?a_reached_behind ?l_reached_behind ?c_reached_behind ?k_reached_behind ?a_one_letter_on ?l_one_letter_on ?c_one_letter_on ?k_one_letter_on ?a_last_windows ?l_last_windows ?c_last_windows ?k_last_windows ?a_law_mixed ?l_law_mixed ?c_law_mixed ?k_law_mixed ?a_law_purse ?l_law_purse ?c_law_purse ?k_law_purse ?a_law_next ?l_law_next ?c_law_next ?k_law_next ?a_law_turned ?l_law_turned ?c_law_turned ?k_law_turned ?a_law_machine ?l_law_machine ?c_law_machine ?k_law_machine ?a_law_behind ?l_law_behind ?c_law_behind ?k_law_behind ?a_law_texts ?l_law_texts ?c_law_texts ?k_law_texts ?a_law_come_to ?l_law_come_to ?c_law_come_to ?k_law_come_to ?a_law_good ?l_law_good ?c_law_good ?k_law_good ?a_law_is ?l_law_is ?c_law_is ?k_law_is ?a_law_due ?l_law_due ?c_law_due ?k_law_due ?a_law_chain ?l_law_chain ?c_law_chain ?k_law_chain ?a_law ?l_law ?c_law ?k_law (by decide) (by decide) ?z_abs ?z_any ?z_enumerate ?z_int ?z_isinstance ?z_len ?z_list ?z_min ?z_range ?z_reversed ?z_set ?z_sorted ?z_tuple ?z_zip ?y_BACK ?y_FRONT
    (case a_useful_ways => k_is)
    (case l_useful_ways => k_is)
    (case c_useful_ways => k_is)
    (case k_useful_ways => k_is)
    (case a_explored => k_is)
    (case l_explored => k_is)
    (case c_explored => k_is)
    (case k_explored => k_is)
    (case a_leading => k_is)
    (case l_leading => k_is)
    (case c_leading => k_is)
    (case k_leading => k_is)
    (case a_unseen => k_is)
    (case l_unseen => k_is)
    (case c_unseen => k_is)
    (case k_unseen => k_is)
    (case a_end_marks => k_is)
    (case l_end_marks => k_is)
    (case c_end_marks => k_is)
    (case k_end_marks => k_is)
    (case a_ways_of => k_is)
    (case l_ways_of => k_is)
    (case c_ways_of => k_is)
    (case k_ways_of => k_is)
    (case h_ways_of => first | kernel_rfl | rfl | decide +kernel)
    (case n_ways_of => first | kernel_rfl | rfl | decide +kernel)
    (case a_windows_of => k_is)
    (case l_windows_of => k_is)
    (case c_windows_of => k_is)
    (case k_windows_of => k_is)
    (case a_windows_of_ways => k_is)
    (case l_windows_of_ways => k_is)
    (case c_windows_of_ways => k_is)
    (case k_windows_of_ways => k_is)
    (case h_windows_of_ways => first | kernel_rfl | rfl | decide +kernel)
    (case n_windows_of_ways => first | kernel_rfl | rfl | decide +kernel)
    (case a_reached_behind => k_is)
    (case l_reached_behind => k_is)
    (case c_reached_behind => k_is)
    (case k_reached_behind => k_is)
    (case a_one_letter_on => k_is)
    (case l_one_letter_on => k_is)
    (case c_one_letter_on => k_is)
    (case k_one_letter_on => k_is)
    (case a_last_windows => k_is)
    (case l_last_windows => k_is)
    (case c_last_windows => k_is)
    (case k_last_windows => k_is)
    (case a_law_mixed => k_is)
    (case l_law_mixed => k_is)
    (case c_law_mixed => k_is)
    (case k_law_mixed => k_is)
    (case a_law_purse => k_is)
    (case l_law_purse => k_is)
    (case c_law_purse => k_is)
    (case k_law_purse => k_is)
    (case a_law_next => k_is)
    (case l_law_next => k_is)
    (case c_law_next => k_is)
    (case k_law_next => k_is)
    (case a_law_turned => k_is)
    (case l_law_turned => k_is)
    (case c_law_turned => k_is)
    (case k_law_turned => k_is)
    (case a_law_machine => k_is)
    (case l_law_machine => k_is)
    (case c_law_machine => k_is)
    (case k_law_machine => k_is)
    (case a_law_behind => k_is)
    (case l_law_behind => k_is)
    (case c_law_behind => k_is)
    (case k_law_behind => k_is)
    (case a_law_texts => k_is)
    (case l_law_texts => k_is)
    (case c_law_texts => k_is)
    (case k_law_texts => k_is)
    (case a_law_come_to => k_is)
    (case l_law_come_to => k_is)
    (case c_law_come_to => k_is)
    (case k_law_come_to => k_is)
    (case a_law_good => k_is)
    (case l_law_good => k_is)
    (case c_law_good => k_is)
    (case k_law_good => k_is)
    (case a_law_is => k_is)
    (case l_law_is => k_is)
    (case c_law_is => k_is)
    (case k_law_is => k_is)
    (case a_law_due => k_is)
    (case l_law_due => k_is)
    (case c_law_due => k_is)
    (case k_law_due => k_is)
    (case a_law_chain => k_is)
    (case l_law_chain => k_is)
    (case c_law_chain => k_is)
    (case k_law_chain => k_is)
    (case a_law => k_is)
    (case l_law => k_is)
    (case c_law => k_is)
    (case k_law => k_is)
    (case z_abs => k_is)
    (case z_any => k_is)
    (case z_enumerate => k_is)
    (case z_int => k_is)
    (case z_isinstance => k_is)
    (case z_len => k_is)
    (case z_list => k_is)
    (case z_min => k_is)
    (case z_range => k_is)
    (case z_reversed => k_is)
    (case z_set => k_is)
    (case z_sorted => k_is)
    (case z_tuple => k_is)
    (case z_zip => k_is)
    (case y_BACK => k_is)
    (case y_FRONT => k_is)
